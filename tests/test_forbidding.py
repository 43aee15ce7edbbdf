"""bothsure/forbidding.py: points 1, 11, 24, 25, 28 and 29."""

import random

from bothsure.closing import rounds_needed
from bothsure.errors import InvalidFate, InvalidState
from bothsure.forbidding import fewest_to_forbid, forbid
from bothsure.known import anything, at_most_lost, falls_silent, losses_apart, no_run, one_way, reliable
from bothsure.rules import Rule
from tests.reference import (
    ORDER, allowed, can_be_sure, cycle, fewest_arrows, numbered_as_met, random_tables, strings, without,
)
from tests.timing import TimedCase

N = None
TABLES = [
    [[0, 0, 0, 0]],
    [[0, 0, 0, N]],
    [[N, N, N, 0]],
    [[N, N, N, 1], [N, N, N, 2], [N, N, N, 1]],
    [[N, N, N, 1], [N, N, N, 2], [0, 0, 0, N]],
    [[N, N, N, 1], [N, 0, N, 1]],
    [[N, N, N, 1], [1, 1, 1, 1]],
    [[0, 1, 1, 2], [1, 2, 2, N], [2, N, N, N]],
    [[1, 1, 1, N], [1, 1, 1, 1]],
    [[1, N, N, 0], [1, 1, N, 1]],
    [[1, 1, 1, 0], [0, 0, 0, N]],
    [[1, 2, 3, N], [2, 3, 1, N], [3, 1, 2, 0], [3, N, N, N]],
    [[1, 0, 2, N], [1, N, N, N], [2, 2, 2, 2]],
    [[1, 2, N, N], [0, N, N, N], [N, N, N, 2]],
    [],
]
SHORT = strings(4)
WRONG_FATES = ["x", "B", " ", "0", "F"]


class ForbidTest(TimedCase):
    def some_lists(self, chooser, rows):
        arrows = [(state, fate) for state in range(len(rows)) for fate in ORDER]
        for many in range(6):
            yield [chooser.choice(arrows) for _ in range(many)] if arrows else []

    def test_what_is_left(self):
        chooser = random.Random(61)
        for table in TABLES + random_tables(62, 60, 5):
            rule = Rule(table)
            for arrows in self.some_lists(chooser, rule.rows):
                left = without(rule.rows, arrows)
                found = forbid(rule, arrows)
                self.assertIs(Rule, type(found))
                self.assertEqual([fates for fates in SHORT if allowed(left, fates)],
                                 [fates for fates in SHORT if fates in found])
                self.assertEqual(Rule(left).rows, found.rows)
                self.assertTrue(numbered_as_met(found.rows))

    def test_by_hand(self):
        self.assertEqual(((N, 0, 0, N),), forbid(anything(), [(0, "b"), (0, "n")]).rows)
        self.assertEqual(((0, 1, N, N), (N, 1, N, N)), forbid(falls_silent(), [(0, "s")]).rows)
        self.assertEqual(reliable(), forbid(falls_silent(), [(1, "f"), (2, "s")]))
        self.assertEqual((), forbid(reliable(), [(0, "b")]).rows)
        self.assertEqual((), forbid(falls_silent(), [(1, "f"), (2, "s"), (0, "b")]).rows)
        self.assertEqual(((0, N, N, N),), forbid(at_most_lost(1), [(0, "s"), (0, "f")]).rows)

    def test_no_arrow(self):
        for table in TABLES:
            rule = Rule(table)
            found = forbid(rule, [])
            self.assertEqual(rule.rows, found.rows)
            self.assertIsNot(rule, found)

    def test_all_pairs_mean_states_of_the_rule(self):
        # Once (0, "f") is forbidden, the normal form has two states only, and state 2 would be state 1.
        rule = falls_silent()
        self.assertEqual(((0, N, 1, N), (N, N, 1, N)), forbid(rule, [(0, "f")]).rows)
        self.assertEqual(((0, N, 1, N), (N, N, 1, N)), forbid(rule, [(0, "f"), (1, "f")]).rows)
        self.assertEqual(((0, N, N, N),), forbid(rule, [(0, "f"), (2, "s")]).rows)
        self.assertEqual(((0, N, N, N),), forbid(rule, [(1, "f"), (2, "s"), (1, "b")]).rows)

    def test_pairs_twice_and_pairs_without_an_entry(self):
        rule = falls_silent()
        expected = forbid(rule, [(0, "s")])
        for arrows in ([(0, "s"), (0, "s")], [(0, "n"), (0, "s")], [(0, "s"), (1, "b"), (2, "n"), (0, "s"), (1, "b")]):
            self.assertEqual(expected.rows, forbid(rule, arrows).rows)
        self.assertEqual(rule.rows, forbid(rule, [(0, "n"), (1, "b"), (1, "s"), (2, "f"), (0, "n")]).rows)

    def test_any_order(self):
        chooser = random.Random(63)
        for table in random_tables(64, 30, 5):
            rule = Rule(table)
            for arrows in self.some_lists(chooser, rule.rows):
                mixed = arrows * 2
                chooser.shuffle(mixed)
                self.assertEqual(forbid(rule, arrows).rows, forbid(rule, mixed).rows)

    def test_arguments_stay(self):
        rule = falls_silent()
        arrows = [(0, "s"), (0, "n"), (0, "s"), (2, "s")]
        forbid(rule, arrows)
        self.assertEqual([(0, "s"), (0, "n"), (0, "s"), (2, "s")], arrows)
        self.assertEqual(falls_silent().rows, rule.rows)

    def assert_refused(self, rule, arrows, error, value):
        before = (rule.rows, list(arrows))
        with self.assertRaises(error) as held:
            forbid(rule, arrows)
        self.assertEqual([value], list(vars(held.exception).values()))
        self.assertEqual(before, (rule.rows, arrows))

    def test_wrong_states_and_wrong_fates(self):
        for rule in (falls_silent(), anything(), reliable(), at_most_lost(3)):
            size = rule.size
            for behind in ([], [(0, "b")], [(0, "n"), (0, "n")], [(size - 1, "s"), (0, "b")]):
                for wrong in (-1, size, -size, size + 5, 10 ** 59, -10 ** 59):
                    for fate in ["b", "n"] + WRONG_FATES:
                        self.assert_refused(rule, behind + [(wrong, fate)], InvalidState, wrong)
                        self.assert_refused(rule, behind + [(wrong, fate), (0, "x"), (-7, "b")], InvalidState, wrong)
                for fate in WRONG_FATES:
                    self.assert_refused(rule, behind + [(0, fate)], InvalidFate, 0)
                    self.assert_refused(rule, behind + [(0, fate), (-1, "b"), (size, fate)], InvalidFate, 0)

    def test_wrong_arrows_of_an_entry_that_is_none(self):
        self.assert_refused(reliable(), [(0, "n"), (0, "x")], InvalidFate, 0)
        self.assert_refused(reliable(), [(0, "b"), (0, "b"), (1, "n")], InvalidState, 1)

    def test_empty_rules(self):
        for rule in (no_run(), Rule([[1, N, N, N], [N, N, N, N]])):
            self.assertEqual((), forbid(rule, []).rows)
            for wrong in (0, -1, 1):
                self.assert_refused(rule, [(wrong, "b")], InvalidState, wrong)
                self.assert_refused(rule, [(wrong, "x")], InvalidState, wrong)

    def test_largest_rule(self):
        rule = Rule(cycle(120, "f", everywhere="bn"))
        self.assertEqual(120, rule.size)
        arrows = [(state, "n") for state in range(120)]
        self.assertEqual(Rule(cycle(120, "f")).rows, self.assert_quick(lambda: forbid(rule, arrows)).rows)
        every = [(state, fate) for state in range(120) for fate in ORDER] * 2
        self.assertEqual((), self.assert_quick(lambda: forbid(rule, every)).rows)


class FewestToForbidTest(TimedCase):
    def assert_fewest(self, rule):
        """Compare with a search over all sets of arrows, and return what was found."""
        before = rule.rows
        expected = fewest_arrows(rule.rows)
        found = self.assert_quick(lambda: fewest_to_forbid(rule))
        self.assertEqual(expected, found, rule.rows)
        self.assertEqual(before, rule.rows)
        return found

    def test_all_sets_of_arrows(self):
        lengths = []
        for table in TABLES + random_tables(65, 300, 5):
            found = self.assert_fewest(Rule(table))
            lengths.append(None if found is None else len(found))
        self.assertEqual({None, 0, 1, 2}, set(lengths))
        self.assertGreater(lengths.count(2), 5)
        self.assertGreater(lengths.count(1), 20)

    def test_all_rules_of_one_state(self):
        for choice in range(16):
            self.assert_fewest(Rule([[0 if choice >> at & 1 else N for at in range(4)]]))

    def test_by_hand(self):
        self.assertEqual([(0, "b"), (0, "n")], fewest_to_forbid(anything()))
        self.assertEqual([(0, "b")], fewest_to_forbid(Rule([[0, 0, 0, N]])))
        self.assertEqual([(0, "n")], fewest_to_forbid(Rule([[0, 0, N, 0]])))
        self.assertEqual([(1, "n")], fewest_to_forbid(Rule([[N, N, N, 1], [N, 0, N, 1]])))
        self.assertEqual([(1, "b"), (1, "n")], fewest_to_forbid(Rule([[N, N, N, 1], [1, 1, 1, 1]])))

    def test_the_first_of_the_shortest(self):
        # Each of `b`, `f` and `s` would do, in state 0 as well as in state 1.
        self.assertEqual([(0, "b")], fewest_to_forbid(Rule([[1, 1, 1, N], [0, 0, 0, N], [N, N, N, N]])))
        self.assertEqual([(0, "b"), (0, "n")], fewest_to_forbid(Rule([[0, 1, 1, 1], [0, 0, 0, 0]])))

    def test_what_is_left_goes_on(self):
        # Without (0, "n") nothing could go on, so a later arrow is forbidden.
        rule = Rule([[N, N, N, 1], [N, 1, N, 0]])
        self.assertEqual([(1, "n")], fewest_to_forbid(rule))
        # A single arrow that leaves only states from which nothing goes on makes the rule empty.
        for table in TABLES + random_tables(66, 60, 4):
            rule = Rule(table)
            found = fewest_to_forbid(rule)
            if found is not None:
                left = forbid(rule, found)
                self.assertFalse(left.empty)
                self.assertIsNotNone(rounds_needed(left))

    def test_an_arrow_may_bar_a_way_further_on(self):
        # What leads into a state from which nothing goes on any more is gone, too.
        rule = Rule([[1, 0, 0, N], [2, N, N, N], [2, N, N, N]])
        self.assertEqual([], fewest_to_forbid(rule))
        rule = Rule([[0, 0, 1, N], [2, N, N, N], [0, 0, 0, N]])
        self.assertEqual(fewest_arrows(rule.rows), fewest_to_forbid(rule))

    def test_sure_already(self):
        for rule in (reliable(), falls_silent(), at_most_lost(0), at_most_lost(4), one_way("first"), losses_apart(3)):
            self.assertEqual([], fewest_to_forbid(rule))

    def test_none(self):
        for table in ([], [[1, N, N, N], [N, N, N, N]], [[N, N, N, 0]],
                      [[N, N, N, 1], [N, N, N, 2], [N, N, N, 1]]):
            self.assertIsNone(fewest_to_forbid(Rule(table)))
        self.assertIsNone(fewest_to_forbid(no_run()))

    def test_only_of_normal_forms(self):
        # Two rows of the table are one state, and a third one is never met.
        rule = Rule([[1, 1, 1, 1], [0, 0, 0, 0], [2, N, N, N]])
        self.assertEqual([(0, "b"), (0, "n")], fewest_to_forbid(rule))

    def test_each_call_returns_a_new_list(self):
        for rule in (anything(), reliable()):
            found = fewest_to_forbid(rule)
            expected = list(found)
            self.assertIs(list, type(found))
            self.assertEqual([tuple] * len(found), [type(arrow) for arrow in found])
            found.append((7, "n"))
            self.assertEqual(expected, fewest_to_forbid(rule))

    def test_five_states_with_all_arrows(self):
        chooser = random.Random(67)
        for _ in range(12):
            rule = Rule([[chooser.randrange(5) for _ in ORDER[:3]] + [N if chooser.randrange(3) == 0 else
                                                                       chooser.randrange(5)] for _ in range(5)])
            self.assert_fewest(rule)
        # The last of five states is the first one with a fate other than `n`.
        rule = Rule([[N, N, N, 1], [N, N, N, 2], [N, N, N, 3], [N, N, N, 4], [0, 1, 2, 3]])
        self.assertEqual(5, rule.size)
        self.assertEqual([(4, "b"), (4, "n")], self.assert_fewest(rule))
        for rule in (Rule([[1, 2, 3, 4], [2, 3, 4, 0], [3, 4, 0, 1], [4, 0, 1, N], [0, 1, N, 3]]), at_most_lost(4)):
            self.assertEqual(5, rule.size)
            self.assertEqual(can_be_sure(rule.rows), self.assert_fewest(rule) == [])
