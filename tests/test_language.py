"""The rules of the language that can be checked by reading the files of the package.

With its few imports and builtins, the package has no clock, no random source and no files (point 1).
"""

import ast
import pathlib
import unittest

PACKAGE = pathlib.Path(__file__).resolve().parent.parent / "bothsure"
FILES = sorted(PACKAGE.glob("*.py"))
BUILTINS = (
    "len range enumerate zip min max sum abs sorted reversed int str bool list tuple dict set isinstance ord repr "
    "any all divmod iter next super property ValueError TypeError KeyError IndexError NotImplemented"
).split()
METHODS = "__init__ __eq__ __str__ __call__ __iter__ __le__ __lt__ __and__ __or__ __rshift__ __invert__ " \
    "__contains__ __getitem__"
INTERFACE = {
    "errors": "SureError InvalidFate InvalidEnd InvalidBit InvalidCount InvalidRule InvalidState InvalidNotation "
              "OutOfChain NeverSeen Unmatched CannotDecide NoChain NotClosed",
    "fates": "arrives swap_fates",
    "runs": "Run alike",
    "rules": "Rule",
    "letters": "rounds_of join_views grow End",
    "known": "anything no_run reliable at_most_lost one_way falls_silent losses_apart",
    "words": "words count apart",
    "closing": "passable is_closed closed_states rounds_needed",
    "deciding": "shown Decider",
    "chains": "Chain spin",
    "forbidding": "forbid fewest_to_forbid",
    "notation": "format_rule parse_rule",
}
LISTED = {
    "Run": "__init__ rounds __getitem__ __iter__ __eq__ __str__ seen cut swapped",
    "Rule": "__init__ size empty step after allowed_at then __or__ __and__ __rshift__ __invert__ __contains__ "
            "__le__ __lt__ __eq__",
    "End": "__init__ view receive",
    "Decider": "__init__ rounds __call__",
    "Chain": "__init__ rounds length __getitem__ piece",
}


def trees():
    return [(path.stem, ast.parse(path.read_text(encoding="ascii"))) for path in FILES]


def nodes(tree, kind):
    return [node for node in ast.walk(tree) if isinstance(node, kind)]


def bound_names(tree):
    """All names that a file gives a meaning to, wherever it does so."""
    names = [node.id for node in nodes(tree, ast.Name) if isinstance(node.ctx, ast.Store)]
    names += [node.name for node in nodes(tree, (ast.FunctionDef, ast.ClassDef))]
    names += [node.arg for node in nodes(tree, ast.arg)]
    return names + [alias.name for node in nodes(tree, ast.ImportFrom) for alias in node.names]


class LanguageTest(unittest.TestCase):
    def test_only_python_files(self):
        found = [path for path in PACKAGE.iterdir() if path.name != "__pycache__"]
        self.assertEqual(FILES, sorted(found))

    def test_characters_and_sizes(self):
        for path in FILES:
            lines = path.read_bytes().decode("ascii").split("\n")
            self.assertLess(len(lines), 400)
            for line in lines:
                self.assertLessEqual(len(line), 120)
                self.assertTrue(all(" " <= character <= "~" for character in line), line)
        for _, tree in trees():
            for node in nodes(tree, ast.FunctionDef):
                self.assertLessEqual(node.end_lineno - node.lineno + 1, 40)

    def test_imports_name_the_file_that_defines(self):
        defined = {name: [node.name for node in tree.body if isinstance(node, (ast.FunctionDef, ast.ClassDef))]
                   + [node.targets[0].id for node in tree.body if isinstance(node, ast.Assign)]
                   for name, tree in trees()}
        for name, tree in trees():
            self.assertEqual([], nodes(tree, ast.Import))
            for node in nodes(tree, ast.ImportFrom):
                self.assertIn(node, tree.body)
                self.assertEqual(0, node.level)
                package, source = node.module.split(".")
                self.assertEqual("bothsure", package)
                for alias in node.names:
                    self.assertIn(alias.name, defined[source])
                    self.assertIsNone(alias.asname)

    def test_no_other_builtin(self):
        for name, tree in trees():
            known = set(bound_names(tree))
            self.assertEqual(set(), known & set(BUILTINS))
            for node in nodes(tree, ast.Name):
                self.assertIn(node.id, known | set(BUILTINS), name)

    def test_statements_and_values(self):
        barred = (ast.Global, ast.AsyncFunctionDef, ast.Div, ast.Await, ast.Set, ast.AnnAssign)
        for name, tree in trees():
            self.assertEqual([], nodes(tree, barred), name)
            for node in nodes(tree, ast.Constant):
                self.assertNotIsInstance(node.value, float)
                self.assertFalse(isinstance(node.value, str) and "\x25" in node.value)
            for node in nodes(tree, ast.FunctionDef):
                self.assertEqual([], [mark for mark in node.decorator_list if ast.unparse(mark) != "property"])
                if node.name.startswith("__"):
                    self.assertIn(node.name, METHODS.split())

    def test_order_methods_bar_sorting(self):
        for name, tree in trees():
            used = [node.id for node in nodes(tree, ast.Name)]
            self.assertEqual([], [word for word in ("sorted", "min", "max") if word in used], name)

    def test_interface_is_defined_where_it_is_listed(self):
        for name, tree in trees():
            defined = {node.name: node for node in tree.body if isinstance(node, (ast.FunctionDef, ast.ClassDef))}
            for listed in INTERFACE.get(name, "").split():
                self.assertIn(listed, defined)
                methods = [node.name for node in defined[listed].body if isinstance(node, ast.FunctionDef)]
                for method in LISTED.get(listed, "").split():
                    self.assertIn(method, methods)
        self.assertLessEqual(set(INTERFACE), {path.stem for path in FILES})
