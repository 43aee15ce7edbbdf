"""The operators of rules and `then`: points 1, 12, 28 and 29."""

from bothsure.errors import InvalidCount, SureError
from bothsure.fates import swap_fates
from bothsure.rules import Rule
from tests.reference import (
    allowed, allowed_by_both, allowed_by_change, allowed_by_then, cycle, different_states, disguised,
    first_apart, numbered_as_met, random_tables, strings,
)
from tests.timing import TimedCase

N = None
ANYTHING = [[0, 0, 0, 0]]
RELIABLE = [[0, N, N, N]]
TABLES = [
    [],
    [[N, N, N, N]],
    ANYTHING,
    RELIABLE,
    [[N, N, N, 0]],
    [[N, 0, N, N]],
    [[0, 0, N, N]],
    [[1, N, 1, N], [1, 1, 1, 1]],
    [[0, 1, N, N], [0, N, N, N]],
    [[0, 1, 2, N], [N, 1, N, N], [N, N, 2, N]],
    [[0, 1, 1, 2], [1, 2, 2, N], [2, N, N, N]],
    [[2, N, 1, N], [N, N, N, N], [2, N, N, 1]],
]
PAIRS = [(left, right) for left in TABLES for right in TABLES]
RANDOM = random_tables(11, 60, 4)
RANDOM_PAIRS = list(zip(RANDOM, RANDOM[1:]))
SHORT = strings(4)


def tuples(table):
    return tuple(tuple(row) for row in table)


class OperatorCase(TimedCase):
    def assert_allows(self, rule, expected):
        """The rule allows exactly those short strings that the search by hand finds."""
        self.assertEqual([fates for fates in SHORT if expected(fates)],
                         [fates for fates in SHORT if rule.after(fates) is not None])
        self.assertIsInstance(rule, Rule)
        self.assertTrue(different_states(rule.rows))
        self.assertTrue(numbered_as_met(rule.rows))
        self.assertFalse((N, N, N, N) in rule.rows)


class EitherTest(OperatorCase):
    def test_strings(self):
        for left, right in PAIRS + RANDOM_PAIRS:
            self.assert_allows(Rule(left) | Rule(right),
                               lambda fates: allowed(left, fates) or allowed(right, fates))

    def test_empty_sides(self):
        for table in TABLES + RANDOM:
            self.assertEqual(Rule(table).rows, (Rule(table) | Rule([])).rows)
            self.assertEqual(Rule(table).rows, (Rule([]) | Rule(table)).rows)
        self.assertTrue((Rule([]) | Rule([])).empty)

    def test_order_and_repetition_do_not_matter(self):
        for left, right in RANDOM_PAIRS:
            one, other = Rule(left), Rule(right)
            self.assertTrue((one | other) == (other | one))
            self.assertTrue((one | one) == one)
            self.assertTrue(one <= (one | other))
            self.assertTrue((one & other) <= one)

    def test_sequences_stay_with_one_side(self):
        rule = Rule([[1, N, N, N], [N, 1, N, N]]) | Rule([[1, N, N, N], [N, N, 1, N]])
        self.assertEqual([True, True, True, False, False],
                         [fates in rule for fates in ("b", "bff", "bss", "bfs", "bsf")])

    def test_largest_sizes(self):
        left, right = Rule(cycle(18, "f")), Rule(cycle(25, "f"))
        rule = self.assert_quick(lambda: left | right)
        # Behind an `f` that only one of the two may lose, only that one is left.
        self.assertTrue("b" * 18 + "f" + "b" * 17 + "f" in rule)
        self.assertTrue("b" * 25 + "f" + "b" * 24 + "f" in rule)
        self.assertFalse("b" * 18 + "f" + "b" * 6 + "f" in rule)
        self.assertFalse("b" * 17 + "f" in rule)
        self.assertEqual(450 + 18 + 25, rule.size)
        long = self.assert_quick(lambda: (left & right) | Rule(RELIABLE))
        self.assertEqual(450, long.size)


class BothTest(OperatorCase):
    def test_strings(self):
        for left, right in PAIRS + RANDOM_PAIRS:
            self.assert_allows(Rule(left) & Rule(right),
                               lambda fates: allowed_by_both(left, right, fates))

    def test_strings_that_lead_nowhere(self):
        left = [[1, 0, N, N], [N, N, N, 1]]
        right = [[1, 0, N, N], [N, N, 1, N]]
        self.assertEqual(((N, 0, N, N),), (Rule(left) & Rule(right)).rows)

    def test_empty_sides(self):
        for table in TABLES + RANDOM:
            self.assertEqual((), (Rule(table) & Rule([])).rows)
            self.assertEqual((), (Rule([]) & Rule(table)).rows)
        self.assertEqual((), (Rule(RELIABLE) & Rule([[N, N, N, 0]])).rows)

    def test_largest_sizes(self):
        left, right = Rule(cycle(18, "f")), Rule(cycle(25, "f"))
        rule = self.assert_quick(lambda: left & right)
        self.assertEqual(450, rule.size)
        self.assertEqual(["bf"] + ["b"] * 449, [rule.allowed_at(state) for state in range(450)])
        again = self.assert_quick(lambda: rule & Rule(ANYTHING))
        self.assertEqual(rule.rows, again.rows)


class ChangeTest(OperatorCase):
    def test_strings(self):
        for left, right in PAIRS + RANDOM_PAIRS:
            self.assert_allows(Rule(left) >> Rule(right),
                               lambda fates: allowed_by_change(left, right, fates))

    def test_empty_sides(self):
        for table in TABLES + RANDOM:
            self.assertEqual((), (Rule([]) >> Rule(table)).rows)
            self.assertEqual(Rule(table).rows, (Rule(table) >> Rule([])).rows)

    def test_change_at_once_and_never(self):
        for left, right in RANDOM_PAIRS:
            rule = Rule(left) >> Rule(right)
            self.assertTrue(Rule(left) <= rule)
            self.assertIs(True, allowed(left, "") is False or Rule(right) <= rule)

    def test_the_change_is_made_once(self):
        rule = Rule(RELIABLE) >> Rule([[N, 0, N, N]])
        self.assertEqual(((0, 1, N, N), (N, 1, N, N)), rule.rows)
        self.assertEqual([True, True, True, False], [fates in rule for fates in ("bbf", "ff", "b", "bfb")])

    def test_falling_silent(self):
        first_silent = Rule(RELIABLE) >> Rule([[N, 0, N, N]])
        self.assertEqual(((0, 1, 2, N), (N, 1, N, N), (N, N, 2, N)), (first_silent | ~first_silent).rows)

    def test_largest_sizes(self):
        left = [[1, 1, N, N], [2, N, 2, N], [3, N, N, 3], [4, 4, N, N], [5, N, N, N], [N, 0, 0, N]]
        right = [[1, N, N, 2], [1, 3, N, N], [N, 0, 2, 0], [0, 2, 1, N]]
        self.assertEqual((6, 4), (Rule(left).size, Rule(right).size))
        rule = self.assert_quick(lambda: Rule(left) >> Rule(right))
        for fates in strings(6):
            self.assertIs(allowed_by_change(left, right, fates), fates in rule)
        self.assertTrue(different_states(rule.rows))


class ThenTest(OperatorCase):
    def test_strings(self):
        for left, right in PAIRS:
            for rounds in range(4):
                self.assert_allows(Rule(left).then(Rule(right), rounds=rounds),
                                   lambda fates: allowed_by_then(left, right, rounds, fates))
        for left, right in RANDOM_PAIRS:
            self.assert_allows(Rule(left).then(Rule(right), rounds=2),
                               lambda fates: allowed_by_then(left, right, 2, fates))

    def test_empty_sides(self):
        for table in TABLES:
            for rounds in (0, 1, 60):
                self.assertEqual((), Rule([]).then(Rule(table), rounds=rounds).rows)
                self.assertEqual((), Rule(table).then(Rule([]), rounds=rounds).rows)

    def test_no_round(self):
        for left, right in PAIRS + RANDOM_PAIRS:
            expected = Rule(right).rows if allowed(left, "") else ()
            self.assertEqual(expected, Rule(left).then(Rule(right), rounds=0).rows)

    def test_reliable_then_anything(self):
        rule = Rule(RELIABLE).then(Rule(ANYTHING), rounds=1)
        self.assertEqual(((1, N, N, N), (1, 1, 1, 1)), rule.rows)

    def test_wrong_counts(self):
        for left, right in PAIRS:
            for wrong in (-1, 61, 10 ** 59, -10 ** 59):
                with self.assertRaises(InvalidCount) as held:
                    Rule(left).then(Rule(right), rounds=wrong)
                self.assertEqual(wrong, held.exception.amount)
                self.assertIsInstance(held.exception, SureError)

    def test_rounds_by_keyword_only(self):
        with self.assertRaises(TypeError):
            Rule(RELIABLE).then(Rule(ANYTHING), 1)

    def test_largest_sizes(self):
        right = Rule([[1, N, N, N], [2, 1, N, N], [3, N, 2, N], [4, N, N, 3], [N, 0, 0, 4]])
        self.assertEqual(5, right.size)
        for size, rounds in ((1, 60), (6, 10), (5, 12), (2, 30), (60, 1)):
            left = cycle(size, "f")
            self.assertEqual(size, Rule(left).size)
            rule = self.assert_quick(lambda: Rule(left).then(right, rounds=rounds))
            beginning = ("f" + "b" * (size - 1)) * rounds
            for fates in strings(3):
                self.assertIs(fates in right, beginning[:rounds] + fates in rule)
        rule = Rule(ANYTHING).then(right, rounds=60)
        self.assertEqual(65, rule.size)
        self.assertTrue("bfsn" * 15 + "bbbb" + "n" * 56 in rule)
        self.assertFalse("bfsn" * 15 + "bbbb" + "n" * 55 + "b" in rule)
        self.assertFalse("bfsn" * 15 + "n" in rule)
        self.assertTrue("n" * 60 + "b" in rule)


class SwapTest(OperatorCase):
    def test_strings(self):
        for table in TABLES + RANDOM:
            self.assert_allows(~Rule(table), lambda fates: allowed(table, swap_fates(fates)))
            self.assertEqual(Rule(table).rows, (~~Rule(table)).rows)

    def test_states_are_numbered_anew(self):
        rule = Rule([[N, 1, 2, N], [1, N, N, N], [N, N, N, 2]])
        self.assertEqual(((N, 1, 2, N), (N, N, N, 1), (2, N, N, N)), (~rule).rows)

    def test_largest_size(self):
        rule = self.assert_quick(lambda: ~Rule(cycle(120, "f")))
        self.assertEqual(Rule(cycle(120, "s")).rows, rule.rows)


class OrderTest(OperatorCase):
    def assert_order(self, left, right):
        """Two sets of the strings that are long enough to show any difference."""
        one, other = Rule(left), Rule(right)
        below = not [fates for fates in SHORT if allowed(left, fates) and not allowed(right, fates)]
        equal = first_apart(left, right) is None
        self.assertIs(below, one <= other)
        self.assertIs(below and not equal, one < other)
        self.assertIs(equal, one == other)

    def test_pairs(self):
        # Two states each, so that a difference is shown by a string of at most four fates.
        small = [table for table in TABLES + random_tables(12, 80, 2) if len(Rule(table).rows) <= 2]
        for left in small:
            for right in small:
                self.assert_order(left, right)

    def test_larger_rules(self):
        for left, right in RANDOM_PAIRS:
            one, other = Rule(left), Rule(right)
            self.assertIs((one | other) == other, one <= other)
            self.assertIs((one & other) == one, one <= other)
            self.assertIs(True, one <= one)
            self.assertIs(False, one < one)
            self.assertIs(True, (one & other) <= (one | other))

    def test_empty_sides(self):
        empty = Rule([])
        for table in TABLES:
            rule = Rule(table)
            self.assertIs(True, empty <= rule)
            self.assertIs(rule.empty, rule <= empty)
            self.assertIs(not rule.empty, empty < rule)
            self.assertIs(False, rule < empty)
            self.assertIs(rule.empty, rule == empty)

    def test_neither_contains_the_other(self):
        one, other = Rule([[0, 0, N, N]]), Rule([[0, N, 0, N]])
        self.assertEqual([False] * 5, [one <= other, other <= one, one < other, other < one, one == other])

    def test_equal_rules_from_different_tables(self):
        for seed, table in enumerate(TABLES[1:] + RANDOM):
            one, other = Rule(table), Rule(disguised(seed, table))
            self.assertIs(True, one == other)
            self.assertIs(True, one <= other)
            self.assertIs(False, one < other)
            self.assertIs(False, other < one)

    def test_largest_sizes(self):
        # 61 and 65 have no common divisor, so all pairs of states are met.
        left, right = Rule(cycle(61, "f")), Rule(cycle(65, "s", everywhere="bf"))
        self.assertEqual((61, 65), (left.size, right.size))
        self.assertIs(True, self.assert_quick(lambda: left <= right))
        self.assertIs(True, self.assert_quick(lambda: left < right))
        self.assertIs(False, self.assert_quick(lambda: right <= left))
        self.assertIs(False, self.assert_quick(lambda: left == right))
        almost = cycle(65, "s", everywhere="bf")
        almost[64][1] = N
        self.assertIs(False, self.assert_quick(lambda: left <= Rule(almost)))
        joint = Rule(cycle(7, "f")) & Rule(cycle(9, "f"))
        self.assertIs(True, self.assert_quick(lambda: Rule(cycle(63, "f")) == joint))
        self.assertIs(True, self.assert_quick(lambda: joint <= Rule(cycle(63, "f"))))
        self.assertIs(False, self.assert_quick(lambda: joint < Rule(cycle(63, "f"))))
        long = Rule(cycle(120, "n"))
        self.assertIs(True, self.assert_quick(lambda: long <= Rule(cycle(24, "n"))))
        self.assertIs(False, self.assert_quick(lambda: Rule(cycle(24, "n")) <= long))


class ArgumentsTest(OperatorCase):
    def test_no_operator_modifies_its_arguments(self):
        for left, right in PAIRS + RANDOM_PAIRS:
            one, other = Rule(left), Rule(right)
            before = (one.rows, other.rows)
            made = [one | other, one & other, one >> other, one.then(other, rounds=3), ~one]
            self.assertEqual([True, True], [one == one, one <= one])
            self.assertEqual(before, (one.rows, other.rows))
            self.assertFalse([rule for rule in made if rule is one or rule is other])

    def test_both_sides_may_be_the_same_rule(self):
        for table in TABLES + RANDOM:
            rule = Rule(table)
            self.assertEqual(rule.rows, (rule | rule).rows)
            self.assertEqual(rule.rows, (rule & rule).rows)
            self.assertTrue(rule <= rule >> rule)

    def test_results_are_used_like_other_rules(self):
        rule = (Rule(RELIABLE) >> Rule([[N, N, 0, N]])) & ~Rule([[0, 0, N, N]])
        self.assertEqual(tuples([[0, N, 1, N], [N, N, 1, N]]), rule.rows)
        self.assertEqual((2, False, "bs", 1), (rule.size, rule.empty, rule.allowed_at(0), rule.after("bs")))
