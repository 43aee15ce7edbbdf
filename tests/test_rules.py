"""bothsure/rules.py without the operators: points 1, 9, 10, 11, 28 and 29."""

import copy
import random
import unittest

from bothsure.errors import InvalidFate, InvalidRule, InvalidState
from bothsure.rules import Rule
from tests.reference import (
    ORDER, allowed, cycle, different_states, disguised, first_apart, numbered_as_met, random_table,
    random_tables, strings,
)

N = None
TABLES = [
    [],
    [[N, N, N, N]],
    [[0, 0, 0, 0]],
    [[0, N, N, N]],
    [[N, N, N, 0]],
    [[1, N, N, N], [N, N, N, N]],
    [[1, N, N, 0], [N, 1, N, N]],
    [[1, 1, N, N], [1, 1, 1, 1]],
    [[2, N, 1, N], [N, N, N, N], [2, N, N, 1]],
    [[N, 2, N, 1], [N, N, 1, N], [0, N, 2, N]],
    [[1, 2, N, N], [0, N, N, N], [0, N, N, N]],
    [[1, 2, 3, 4], [N, 1, 1, N], [N, 2, 2, N], [3, N, N, N], [N, N, 5, N], [N, N, N, N]],
]


class CheckTest(unittest.TestCase):
    def assert_invalid(self, rows, state):
        for table in (rows, tuple(rows), [tuple(row) for row in rows], tuple(tuple(row) for row in rows)):
            with self.assertRaises(InvalidRule) as held:
                Rule(table)
            self.assertEqual(state, held.exception.state)

    def test_rows_of_other_lengths(self):
        for row in ([], [0], [0, 0, 0], [0, 0, 0, 0, 0], [N] * 3, [N] * 5, [0] * 8):
            self.assert_invalid([row], 0)
            self.assert_invalid([[0, 1, N, N], row], 1)
            self.assert_invalid([row, [0, 1, N, N]], 0)

    def test_entries_that_are_no_rows(self):
        for wrong in (-1, 2, 3, -2, 10 ** 59, -10 ** 59):
            for at in range(4):
                row = [N, 1, 0, N]
                row[at] = wrong
                self.assert_invalid([[0, 1, N, N], row], 1)
                self.assert_invalid([row, [0, 1, N, N]], 0)
        self.assert_invalid([[N, N, N, 1]], 0)
        self.assert_invalid([[N, N, N, -1]], 0)

    def test_rows_that_cannot_be_reached(self):
        self.assert_invalid([[0, N, N, N], [N, N, N, 2]], 1)
        self.assert_invalid([[0, N, N, N], [1, 1, 1, 1], [N]], 2)
        self.assert_invalid([[N, N, N, N], [N, N, N, -1]], 1)

    def test_first_of_several(self):
        self.assert_invalid([[0, N, N, N], [5, N, N, N], [0]], 1)
        self.assert_invalid([[0, N, N, N], [0], [5, N, N, N]], 1)
        self.assert_invalid([[9], [9]], 0)

    def test_last_row_of_the_largest_table(self):
        table = cycle(36, "f")
        table[35] = [36, N, N, N]
        self.assert_invalid(table, 35)

    def test_valid_tables(self):
        for table in TABLES:
            Rule(table)
        Rule([[1, N, N, N], [0, N, N, 1]])


class NormalFormTest(unittest.TestCase):
    def assert_normal(self, table):
        rule = Rule(table)
        self.assertIs(tuple, type(rule.rows))
        for row in rule.rows:
            self.assertIs(tuple, type(row))
            self.assertEqual(4, len(row))
            self.assertNotEqual((N, N, N, N), row)
        self.assertIsNone(first_apart(table, rule.rows))
        self.assertTrue(different_states(rule.rows))
        self.assertTrue(numbered_as_met(rule.rows))
        self.assertEqual(len(rule.rows), rule.size)
        self.assertIs(not rule.rows, rule.empty)
        self.assertIs(not allowed(table, ""), rule.empty)

    def test_tables_by_hand(self):
        for table in TABLES:
            self.assert_normal(table)

    def test_random_tables(self):
        for table in random_tables(1, 400, 6):
            self.assert_normal(table)

    def test_equal_rules_have_equal_rows(self):
        tables = TABLES[1:] + random_tables(2, 200, 5)
        for seed, table in enumerate(tables):
            other = disguised(seed, table)
            self.assertEqual(Rule(table).rows, Rule(other).rows)
            self.assertTrue(Rule(table) == Rule(other))

    def test_empty_rules(self):
        for table in ([], (), [[N, N, N, N]], [[1, N, N, N], [N, N, N, N]],
                      [[1, 1, N, 2], [2, N, N, N], [N, N, N, N], [3, 3, 3, 3]]):
            rule = Rule(table)
            self.assertEqual(((), 0, True), (rule.rows, rule.size, rule.empty))

    def test_the_table_without_rows_is_given_back_without_rows(self):
        self.assertIs(tuple, type(Rule([]).rows))

    def test_states_that_cannot_go_on(self):
        self.assertEqual(((0, N, N, N),), Rule([[0, 1, 1, 2], [N, 2, N, N], [N, N, N, N]]).rows)

    def test_states_that_cannot_be_reached(self):
        self.assertEqual(((0, N, N, N),), Rule([[0, N, N, N], [1, 1, 1, 1], [0, 1, 2, N]]).rows)

    def test_states_that_allow_the_same(self):
        self.assertEqual(((0, 0, N, N),), Rule([[1, 2, N, N], [2, 0, N, N], [0, 1, N, N]]).rows)
        self.assertEqual(((1, 1, N, N), (0, N, N, N)), Rule([[1, 2, N, N], [0, N, N, N], [0, N, N, N]]).rows)

    def test_a_long_way_to_the_difference(self):
        table = [[at + 1, N, N, N] for at in range(35)] + [[0, 35, N, N]]
        self.assertEqual(tuple(tuple(row) for row in table), Rule(table).rows)
        self.assertEqual(36, Rule(cycle(36, "s")).size)
        self.assertEqual(1, Rule(cycle(36, "")).size)

    def test_numbering(self):
        table = [[3, N, 1, N], [1, N, N, 0], [N, N, N, 2], [N, 2, 3, N]]
        self.assertEqual(((1, N, 2, N), (N, 3, 1, N), (2, N, N, 0), (N, N, N, 3)), Rule(table).rows)
        every = [[4, 3, 2, 1], [1, N, N, N], [2, 2, N, N], [3, N, 3, N], [4, N, N, 4]]
        self.assertEqual(((1, 2, 3, 4), (1, N, N, 1), (2, N, 2, N), (3, 3, N, N), (4, N, N, N)),
                         Rule(every).rows)

    def test_normal_form_of_a_normal_form(self):
        for table in TABLES + random_tables(3, 50, 6):
            rows = Rule(table).rows
            self.assertEqual(rows, Rule(rows).rows)

    def test_largest_tables(self):
        chooser = random.Random(4)
        for missing in (20, 50, 70):
            self.assert_normal(random_table(chooser, 36, missing))
        self.assert_normal(cycle(36, "fsn"))


class ArgumentsTest(unittest.TestCase):
    def test_lists_and_tuples(self):
        for table in TABLES:
            rows = Rule(table).rows
            self.assertEqual(rows, Rule(tuple(table)).rows)
            self.assertEqual(rows, Rule([tuple(row) for row in table]).rows)
            self.assertEqual(rows, Rule(tuple(tuple(row) for row in table)).rows)

    def test_the_table_is_not_modified(self):
        for table in copy.deepcopy(TABLES) + random_tables(5, 30, 5):
            before = copy.deepcopy(table)
            Rule(table)
            self.assertEqual(before, table)

    def test_later_changes_have_no_effect(self):
        table = [[1, N, N, 0], [N, 1, N, N]]
        rule = Rule(table)
        table[0][0] = N
        table[1][1] = 0
        table.append([0, 0, 0, 0])
        self.assertEqual(((1, N, N, 0), (N, 1, N, N)), rule.rows)
        self.assertEqual(1, rule.step(0, "b"))
        self.assertTrue("bff" in rule)
        table.clear()
        self.assertEqual(2, rule.size)


class ReadingTest(unittest.TestCase):
    def test_step(self):
        for table in TABLES + random_tables(6, 30, 5):
            rule = Rule(table)
            for state, row in enumerate(rule.rows):
                self.assertEqual(row, tuple(rule.step(state, fate) for fate in ORDER))

    def test_allowed_at(self):
        for table in TABLES + random_tables(7, 30, 5):
            rule = Rule(table)
            for state, row in enumerate(rule.rows):
                expected = [ORDER[at] for at in range(4) if row[at] is not None]
                self.assertEqual("".join(expected), rule.allowed_at(state))
        self.assertEqual("bfsn", Rule([[0, 0, 0, 0]]).allowed_at(0))
        self.assertEqual("fn", Rule([[N, 0, N, 0]]).allowed_at(0))

    def test_after(self):
        rule = Rule([[1, N, N, 0], [N, 1, N, N]])
        self.assertEqual([0, 1, 0, 1, None, None, 1],
                         [rule.after(fates) for fates in ("", "b", "n", "nnb", "f", "bb", "bfff")])
        for table in TABLES + random_tables(8, 30, 4):
            rule = Rule(table)
            for fates in strings(4):
                self.assertIs(allowed(table, fates), rule.after(fates) is not None)
            for fates in strings(3):
                state = rule.after(fates)
                if state is not None:
                    expected = [rule.step(state, fate) for fate in ORDER]
                    self.assertEqual(expected, [rule.after(fates + fate) for fate in ORDER])

    def test_after_the_empty_string(self):
        self.assertEqual(0, Rule([[0, N, N, N]]).after(""))
        for table in ([], [[N, N, N, N]], [[1, N, N, N], [N, N, N, N]]):
            self.assertIsNone(Rule(table).after(""))
            self.assertIsNone(Rule(table).after("b"))

    def test_in(self):
        for table in TABLES + random_tables(9, 40, 5):
            rule = Rule(table)
            for fates in strings(4):
                self.assertIs(allowed(table, fates), fates in rule)

    def test_not_allowed_if_it_leads_only_where_the_machine_stops(self):
        rule = Rule([[0, 1, 2, N], [N, N, 2, N], [N, N, N, N]])
        self.assertEqual([True, True, False, False, False],
                         [fates in rule for fates in ("", "bb", "f", "fs", "bs")])

    def test_wrong_states(self):
        for table in TABLES:
            rule = Rule(table)
            for wrong in (-1, rule.size, rule.size + 1, -rule.size - 1, 10 ** 59, -10 ** 59):
                for call in (rule.allowed_at, lambda state: rule.step(state, "b")):
                    with self.assertRaises(InvalidState) as held:
                        call(wrong)
                    self.assertEqual(wrong, held.exception.state)

    def test_states_of_the_table_that_was_passed_do_not_matter(self):
        rule = Rule([[2, N, 1, N], [N, N, N, N], [2, N, N, 1]])
        with self.assertRaises(InvalidState):
            rule.step(2, "b")
        with self.assertRaises(InvalidState):
            rule.allowed_at(1)

    def test_state_is_checked_before_the_fate(self):
        for rule in (Rule([[0, N, N, N]]), Rule([])):
            with self.assertRaises(InvalidState) as held:
                rule.step(1, "x")
            self.assertEqual(1, held.exception.state)
        with self.assertRaises(InvalidFate):
            Rule([[0, N, N, N]]).step(0, "x")

    def test_an_error_leaves_the_rule_as_it_was(self):
        rule = Rule([[1, N, N, 0], [N, 1, N, N]])
        for call in (lambda: rule.step(2, "b"), lambda: rule.after("bx"), lambda: "bx" in rule,
                     lambda: rule.allowed_at(-1), lambda: rule.then(rule, rounds=61)):
            with self.assertRaises(ValueError):
                call()
            self.assertEqual(((1, N, N, 0), (N, 1, N, N)), rule.rows)
            self.assertEqual((2, False), (rule.size, rule.empty))

    def test_long_strings(self):
        rule = Rule([[0, 0, 0, 0]])
        self.assertEqual(0, rule.after("bfsn" * 30))
        self.assertTrue("bfsn" * 30 in rule)
        rule = Rule(cycle(36, "f"))
        fates = ("f" + "b" * 35) * 3 + "f" + "b" * 11
        self.assertEqual(12, rule.after(fates))
        self.assertIsNone(rule.after(fates[:-1] + "f"))
        self.assertFalse(fates[:-1] + "n" in rule)
