"""bothsure/notation.py: points 1, 9, 11, 26, 27 and 29."""

from bothsure.errors import InvalidNotation, InvalidRule
from bothsure.known import anything, at_most_lost, falls_silent, losses_apart, no_run, one_way, reliable
from bothsure.notation import format_rule, parse_rule
from bothsure.rules import Rule
from tests.reference import ORDER, cycle, random_tables
from tests.timing import TimedCase

N = None
# Lines of a wrong form, each written for the line with the index 0, 1 or 2; `{}` stands for this index.
WRONG_LINES = [
    "", " ", "  ", ":", "b0", "{}", "{}b0", "{} ", "{} :", "{} b0", "{} : b0", " {}:", " {}: b0", "x{}: b0",
    "{}:: b0", "{}:b0", "{}: ", "{}: b0 ", "{}:  b0", "{}: b0  f1", "{}:b0 f1", "{}: b0f1", "{}: b0,f1", "{}: b 0",
    "{}: b", "{}: b f1", "{}: b0 f", "{}: 0", "{}: 0b", "{}: x0", "{}: B0", "{}: bb0", "{}: b0 x1", "{}: bf0",
    "{}: b0 b0", "{}: b0 b1", "{}: f0 b0", "{}: b0 s0 f0", "{}: n0 b0", "{}: b0 f0 s0 n0 n0", "{}: s0 f0",
    "{}: b0 f0 s0 n0 b0", "{}: n0 n0", "{}: b0 n0 s0", "{}: f0 f1", "{}: b00", "{}: b01", "{}: b0 f02", "{}: n000",
    "{}: b+0", "{}: b-0", "{}: b-1", "{}: b0.0", "{}: b1e1", "{}: b0x1", "{}: b1_0", "{}: bNone", "{}: b{}:",
    "{}: b0;", "{}; b0", "{}. b0", "0{}:", "00{}: b0", "+{}: b0", "-{}: b0", "{}0: b0", "{}: {}: b0", "{}: b0 :",
    "{}: b0 1", "#{}:", "{}:#", "{}: b0 #", "{}:.", "{}: *0", "{}:b", "3: b0", "7:", "10: b0", "b: b0",
    "{}: b0 f0 s0 n",
]
WRONG_ENTRIES = [3, 4, 10, 36, 10 ** 59, 10 ** 60 - 1]


def text_of(table):
    """The text of any table, straight from point 26."""
    return "\n".join(f"{state}:" + "".join(f" {fate}{entry}" for fate, entry in zip(ORDER, row) if entry is not None)
                     for state, row in enumerate(table))


class FormatTest(TimedCase):
    def test_by_hand(self):
        self.assertEqual("0: b0 f1 s2\n1: f1\n2: s2", format_rule(falls_silent()))
        self.assertEqual("0: b0 f0 s0 n0", format_rule(anything()))
        self.assertEqual("0: b0", format_rule(reliable()))
        self.assertEqual("0: b0 f1 s1 n2\n1: b1 f2 s2\n2: b2", format_rule(at_most_lost(2)))
        self.assertEqual("0: n0", format_rule(Rule([[N, N, N, 0]])))

    def test_empty_rules(self):
        self.assertEqual(["", ""], [format_rule(no_run()), format_rule(Rule([[1, N, N, N], [N, N, N, N]]))])

    def test_normal_forms(self):
        for table in random_tables(71, 100, 6):
            rule = Rule(table)
            before = rule.rows
            self.assertEqual(text_of(rule.rows), format_rule(rule))
            self.assertEqual(before, rule.rows)

    def test_numbers_of_several_digits(self):
        lines = format_rule(losses_apart(60)).split("\n")
        self.assertEqual(["0: b0 f1 s1 n1", "1: b2", "9: b10", "10: b11", "60: b0"],
                         [lines[at] for at in (0, 1, 9, 10, 60)])
        self.assertEqual(61, len(lines))

    def test_largest_rule(self):
        rule = Rule(cycle(120, "f", everywhere="bn"))
        self.assertEqual(text_of(rule.rows), self.assert_quick(lambda: format_rule(rule)))
        self.assertEqual(rule.rows, self.assert_quick(lambda: parse_rule(format_rule(rule))).rows)


class ParseTest(TimedCase):
    def assert_wrong(self, text, line):
        with self.assertRaises(InvalidNotation) as held:
            parse_rule(text)
        self.assertEqual(line, held.exception.line, repr(text))

    def assert_no_rule(self, text, state):
        with self.assertRaises(InvalidRule) as held:
            parse_rule(text)
        self.assertEqual(state, held.exception.state, repr(text))

    def test_written_and_read_back(self):
        for rule in [anything(), no_run(), reliable(), falls_silent(), at_most_lost(35), losses_apart(35),
                     one_way("first"), one_way("second")] + [Rule(table) for table in random_tables(72, 100, 6)]:
            found = parse_rule(format_rule(rule))
            self.assertIs(Rule, type(found))
            self.assertEqual(rule.rows, found.rows)

    def test_tables_that_are_not_normal_forms(self):
        for table in random_tables(73, 200, 6):
            self.assertEqual(Rule(table).rows, parse_rule(text_of(table)).rows)
        self.assertEqual(((0, N, N, N),), parse_rule("0: b2 s1\n1:\n2: b2 n1").rows)

    def test_the_empty_text(self):
        found = parse_rule("")
        self.assertIs(Rule, type(found))
        self.assertEqual(((), True), (found.rows, found.empty))

    def test_lines_without_fates(self):
        self.assertEqual((), parse_rule("0:").rows)
        self.assertEqual((), parse_rule("0:\n1:\n2:").rows)
        self.assertEqual(((0, N, N, N),), parse_rule("0: b0 f1\n1:").rows)
        self.assertEqual(((0, N, N, N),), parse_rule("0: b2\n1:\n2: b0").rows)

    def test_all_sets_of_fates(self):
        for choice in range(16):
            row = [0 if choice >> at & 1 else N for at in range(4)]
            self.assertEqual(Rule([row]).rows, parse_rule(text_of([row])).rows)

    def test_wrong_forms(self):
        for form in WRONG_LINES:
            for at in range(3):
                line = form.replace("{}", str(at))
                lines = ["0: b0", "1: f1", "2: s2 n0"]
                lines[at] = line
                self.assert_wrong("\n".join(lines), at)
                # Beside a state that is not there, in each of the other lines and in the same one.
                for other in range(3):
                    if other != at:
                        beside = list(lines)
                        beside[other] = f"{other}: b0 f9"
                        self.assert_wrong("\n".join(beside), at)
                if lines[:at + 1] != [""]:
                    self.assert_wrong("\n".join(lines[:at + 1]), at)
                # Only the first of two lines of a wrong form is told.
                self.assert_wrong("\n".join(lines + [form, "x"]), at)

    def test_wrong_forms_behind_a_state_that_is_not_there(self):
        self.assert_wrong("0: b9 f09", 0)
        self.assert_wrong("0: b1\n1: b01", 1)
        self.assert_wrong("0: b9\n1: b01", 1)
        self.assert_wrong("0: b9\n1: n7\n2: b0 ", 2)
        self.assert_wrong("0: b9\n1: n7\n2: b0\n", 3)
        self.assert_wrong("0: b1" + "0" * 58 + "\n1", 1)

    def test_newlines(self):
        for text, line in [("0: b0\n", 1), ("\n0: b0", 0), ("\n", 0), ("\n\n", 0), ("0: b0\n\n1: b1", 1),
                           ("0:\n", 1), ("0: b0\n1: b1\n", 2), ("0: b0\n1: b1\n\n", 2), ("0: b0\n0: b0", 1),
                           ("1: b0\n0: b0", 0), ("0: b0\n2: b0\n1: b0", 1), ("0: b0\n\n\n", 1)]:
            self.assert_wrong(text, line)

    def test_every_other_character(self):
        others = [chr(code) for code in range(32, 127) if chr(code) != "\x25"]
        for character in others:
            if character not in ORDER:
                self.assert_wrong(f"0: {character}0", 0)
            if character not in "0123456789":
                self.assert_wrong(f"0: b{character}", 0)
                self.assert_wrong(f"0: b1{character}", 0)
                self.assert_wrong(f"0: b0\n{character}: b0", 1)
            if character != ":":
                self.assert_wrong(f"0{character} b0", 0)
            if character != " ":
                self.assert_wrong(f"0:{character}b0", 0)
                self.assert_wrong(f"0: b0{character}f0", 0)

    def test_a_line_with_an_index_of_two_digits(self):
        table = cycle(12, "f")
        self.assertEqual(Rule(table).rows, parse_rule(text_of(table)).rows)
        lines = text_of(table).split("\n")
        for wrong in ("1: b11", "010: b11", "11: b11", "10 : b11", "10:b11", "10: b011"):
            self.assert_wrong("\n".join(lines[:10] + [wrong] + lines[11:]), 10)

    def test_states_that_are_not_there(self):
        for wrong in WRONG_ENTRIES:
            for at in range(3):
                for fate in ORDER:
                    lines = ["0: b0", "1: b1", "2:"]
                    lines[at] = f"{at}: {fate}{wrong}"
                    self.assert_no_rule("\n".join(lines), at)
                    later = [f"{row}: s77" for row in range(at + 1, 3)]
                    self.assert_no_rule("\n".join(lines[:at + 1] + later), at)
        self.assert_no_rule("0: b1", 0)
        self.assert_no_rule("0: b0 f0 s0 n1", 0)
        self.assert_no_rule("0: b0\n1: b2", 1)

    def test_the_last_state_is_there(self):
        self.assertEqual(((1, N, N, N), (1, N, N, 0)), parse_rule("0: b1\n1: b1 n0").rows)

    def test_thirty_six_lines(self):
        for table in [cycle(36, "f"), cycle(36, "sn", everywhere="bf")]:
            self.assertEqual(Rule(table).rows, self.assert_quick(lambda: parse_rule(text_of(table))).rows)
        self.assert_no_rule(text_of(cycle(36, "f")[:35]), 34)
