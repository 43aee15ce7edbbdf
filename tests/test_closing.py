"""bothsure/closing.py: points 1, 14, 15, 16, 18, 28 and 29."""

import random
from itertools import permutations, product

from bothsure.closing import closed_states, is_closed, passable, rounds_needed
from bothsure.errors import InvalidCount, InvalidState
from bothsure.known import anything, at_most_lost, falls_silent, losses_apart, no_run, one_way, reliable
from bothsure.rules import Rule
from tests.reference import closed_sets, cycle, has_chain, is_closed_set, is_passable, ladder, random_tables
from tests.timing import TimedCase

N = None
TABLES = [
    [],
    [[N, N, N, N]],
    [[0, 0, 0, 0]],
    [[0, N, N, N]],
    [[N, N, N, 0]],
    [[0, 0, 0, N]],
    [[0, 0, N, N]],
    [[N, 0, 0, N]],
    [[1, 1, N, N], [1, 1, 1, 1]],
    [[1, N, 1, N], [1, 1, 1, 1]],
    [[1, 2, 1, N], [0, 2, N, 1], [2, N, N, N]],
    [[0, 1, 1, 2], [1, 2, 2, N], [2, N, N, N]],
    [[1, 1, 2, N], [0, N, N, 2], [N, N, N, 1]],
    [[1, 2, 3, N], [2, 3, 1, N], [3, 1, 2, 0], [3, N, N, N]],
    [[N, N, N, 1], [N, N, N, 2], [0, 0, 0, N]],
]
RANDOM = random_tables(31, 80, 6)
RULES = [Rule(table) for table in TABLES + RANDOM]
LADDERS = [(N, N, N, 1), (1, 1, 1, N), (0, 1, 1, 2), (0, 1, 1, N), (1, 1, 1, 1), (0, 1, N, 1), (0, 1, 1, 1)]
WRONG_COUNTS = (-1, 61, 62, -60, 10 ** 59, -10 ** 59)


class PassableTest(TimedCase):
    def test_recursion(self):
        for rule in RULES:
            for rounds in range(7):
                expected = [state for state in range(rule.size) if is_passable(rule.rows, state, rounds)]
                self.assertEqual(expected, passable(rule, rounds=rounds))

    def test_no_round(self):
        for rule in RULES:
            self.assertEqual(list(range(rule.size)), passable(rule, rounds=0))

    def test_empty_rules(self):
        for rounds in (0, 1, 60):
            self.assertEqual([], passable(no_run(), rounds=rounds))

    def test_ways(self):
        self.assertEqual([0], passable(Rule([[N, N, N, 0]]), rounds=1))
        self.assertEqual([0], passable(Rule([[0, 0, 0, N]]), rounds=1))
        for row in ([0, 0, N, N], [0, N, 0, N], [N, 0, 0, N], [0, N, N, N]):
            self.assertEqual([], passable(Rule([row]), rounds=1))

    def test_more_and_more_rounds(self):
        for row in LADDERS:
            for size in (2, 5, 36):
                found = [passable(Rule(ladder(size, row)), rounds=rounds) for rounds in range(size + 2)]
                self.assertEqual([list(range(size - rounds)) for rounds in range(size)] + [[], []], found)

    def test_sixty_rounds(self):
        rule = at_most_lost(60)
        self.assertEqual([0], passable(rule, rounds=60))
        self.assertEqual([0, 1], passable(rule, rounds=59))
        self.assertEqual([0], passable(anything(), rounds=60))
        self.assertEqual([], passable(at_most_lost(59), rounds=60))

    def test_largest_rule(self):
        rule = Rule(ladder(120, (0, 1, 1, 2)))
        self.assertEqual(120, rule.size)
        self.assertEqual(list(range(60)), self.assert_quick(lambda: passable(rule, rounds=60)))

    def test_each_call_returns_a_new_list(self):
        rule = at_most_lost(2)
        found = passable(rule, rounds=1)
        self.assertIs(list, type(found))
        found.append(7)
        found[0] = 5
        self.assertEqual([0, 1], passable(rule, rounds=1))
        self.assertEqual([0, 1, 2], passable(rule, rounds=0))

    def test_wrong_counts(self):
        for rule in RULES[:10]:
            for wrong in WRONG_COUNTS:
                before = rule.rows
                with self.assertRaises(InvalidCount) as held:
                    passable(rule, rounds=wrong)
                self.assertEqual(wrong, held.exception.amount)
                self.assertEqual(before, rule.rows)

    def test_rounds_by_keyword_only(self):
        with self.assertRaises(TypeError):
            passable(anything(), 1)


class IsClosedTest(TimedCase):
    def test_every_set_of_states(self):
        for rule in RULES:
            for choice in product((False, True), repeat=rule.size):
                states = [state for state in range(rule.size) if choice[state]]
                self.assertIs(is_closed_set(rule.rows, set(states)), is_closed(rule, states))

    def test_the_empty_set(self):
        for rule in RULES:
            self.assertIs(True, is_closed(rule, []))

    def test_a_closed_set_without_the_start(self):
        rule = Rule([[1, 2, 1, N], [0, 2, N, 1], [2, N, N, N]])
        self.assertIs(True, is_closed(rule, [1]))
        self.assertIs(False, is_closed(rule, [0, 1]))
        self.assertIs(False, is_closed(rule, [2]))

    def test_any_order_and_doubles(self):
        for rule in RULES:
            if rule.size in (3, 4):
                for choice in product((False, True), repeat=rule.size):
                    states = [state for state in range(rule.size) if choice[state]]
                    expected = is_closed_set(rule.rows, set(states))
                    for order in permutations(states):
                        self.assertIs(expected, is_closed(rule, list(order)))
                        self.assertIs(expected, is_closed(rule, list(order) + list(order)[:2] + list(order)))

    def test_the_list_stays(self):
        for rule in RULES:
            states = list(range(rule.size))[::-1] + list(range(rule.size))
            before = list(states)
            is_closed(rule, states)
            self.assertEqual(before, states)

    def test_wrong_states(self):
        for rule in RULES:
            size = rule.size
            for wrong in (-1, size, size + 1, -size, -size - 1, 10 ** 59, -10 ** 59):
                if 0 <= wrong < size:
                    continue
                for states in ([wrong], list(range(size)) + [wrong], [wrong] + list(range(size)),
                               [wrong, size + 7, -9], list(range(size)) * 2 + [wrong, -7, wrong]):
                    before = (list(states), rule.rows)
                    with self.assertRaises(InvalidState) as held:
                        is_closed(rule, states)
                    self.assertEqual(wrong, held.exception.state)
                    self.assertEqual(before, (states, rule.rows))

    def test_wrong_state_behind_one_that_is_not_closed(self):
        with self.assertRaises(InvalidState) as held:
            is_closed(reliable(), [0, 1, 2])
        self.assertEqual(1, held.exception.state)
        with self.assertRaises(InvalidState) as held:
            is_closed(no_run(), [0])
        self.assertEqual(0, held.exception.state)

    def test_states_of_the_normal_form(self):
        rule = Rule([[2, N, 1, N], [N, N, N, N], [2, N, N, 1]])
        self.assertIs(False, is_closed(rule, [0]))
        with self.assertRaises(InvalidState):
            is_closed(rule, [1])

    def test_largest_rule(self):
        rule = Rule(cycle(120, "f", everywhere="n"))
        self.assertEqual(120, rule.size)
        self.assertIs(True, self.assert_quick(lambda: is_closed(rule, list(range(119, -1, -1)) * 3)))
        self.assertIs(False, is_closed(rule, list(range(119))))


class ClosedStatesTest(TimedCase):
    def test_every_set_of_states(self):
        for rule in RULES:
            sets = closed_sets(rule.rows)
            found = closed_states(rule)
            self.assertIn(set(found), sets)
            self.assertEqual([state for state in range(rule.size) if any(state in states for states in sets)], found)
            self.assertIs(True, is_closed(rule, found))

    def test_passable_for_every_number_of_rounds(self):
        for rule in RULES:
            self.assertEqual(closed_states(rule), passable(rule, rounds=rule.size))
            self.assertEqual(closed_states(rule), passable(rule, rounds=60))

    def test_known_rules(self):
        self.assertEqual([[0], [], [], [], [], []], [closed_states(rule) for rule in (
            anything(), no_run(), reliable(), falls_silent(), at_most_lost(60), one_way("first"))])
        self.assertEqual([], closed_states(losses_apart(1)))
        self.assertEqual([0], closed_states(losses_apart(0)))

    def test_largest_rules(self):
        for row in LADDERS:
            rule = Rule(ladder(120, row))
            self.assertEqual([], self.assert_quick(lambda: closed_states(rule)))
        rule = Rule(cycle(120, "f", everywhere="n"))
        self.assertEqual(list(range(120)), self.assert_quick(lambda: closed_states(rule)))
        chooser = random.Random(32)
        for _ in range(5):
            rows = [[min(119, state + chooser.randrange(-2, 3)) if state > 1 else state + 1 for _ in "bfsn"]
                    for state in range(120)]
            for state in range(60, 120):
                rows[state][3] = None
            rule = Rule(rows)
            found = self.assert_quick(lambda: closed_states(rule))
            self.assertIs(True, is_closed(rule, found))
            self.assertTrue(set(found) <= set(passable(rule, rounds=60)))

    def test_each_call_returns_a_new_list(self):
        rule = anything()
        found = closed_states(rule)
        self.assertIs(list, type(found))
        found.clear()
        self.assertEqual([0], closed_states(rule))


class RoundsNeededTest(TimedCase):
    def test_chains_by_hand(self):
        seen = []
        for table in TABLES + random_tables(33, 60, 4):
            needed = rounds_needed(Rule(table))
            seen.append(needed)
            for rounds in range(5):
                self.assertIs(needed is None or rounds < needed, has_chain(table, rounds))
        self.assertLessEqual({0, 1, 2, None}, set(seen))

    def test_fewest_rounds_by_passable(self):
        for rule in RULES:
            barred = [rounds for rounds in range(rule.size + 1) if 0 not in passable(rule, rounds=rounds)]
            self.assertEqual(barred[0] if barred else None, rounds_needed(rule))

    def test_empty_rules(self):
        self.assertEqual(0, rounds_needed(no_run()))
        self.assertEqual(0, rounds_needed(Rule([[1, N, N, N], [N, N, N, N]])))

    def test_no_other_rule_needs_no_round(self):
        for rule in RULES:
            self.assertIs(rule.empty, rounds_needed(rule) == 0)

    def test_never(self):
        for rule in (anything(), losses_apart(0), Rule([[N, N, N, 0]]), Rule([[0, 0, 0, N]]),
                     Rule([[N, N, N, 1], [0, 0, 0, N]]), reliable() | Rule([[N, N, N, 0]])):
            self.assertIsNone(rounds_needed(rule))
        self.assertIsNone(rounds_needed(Rule([[1, N, N, N], [N, N, N, 1]]) | Rule([[N, 0, 0, N]]) | anything()))

    def test_closed_set_without_the_start(self):
        rule = Rule([[1, N, N, N], [1, 1, 1, 1]])
        self.assertEqual(([1], 1), (closed_states(rule), rounds_needed(rule)))

    def test_known_rules(self):
        self.assertEqual([1, 1, 1, 1], [rounds_needed(rule) for rule in (
            reliable(), one_way("first"), one_way("second"), at_most_lost(0))])
        self.assertEqual(2, rounds_needed(falls_silent()))
        self.assertEqual(list(range(1, 62)), [rounds_needed(at_most_lost(letters)) for letters in range(61)])
        self.assertEqual([None] + [2] * 60, [rounds_needed(losses_apart(rounds)) for rounds in range(61)])

    def test_ladders_need_as_many_rounds_as_they_have_states(self):
        for row in LADDERS:
            for size in (1, 2, 3, 10, 36, 60, 61, 62, 119, 120):
                rule = Rule(ladder(size, row))
                self.assertEqual(size, rule.size)
                self.assertEqual(size, self.assert_quick(lambda: rounds_needed(rule)))

    def test_at_most_as_many_rounds_as_states(self):
        for rule in RULES:
            needed = rounds_needed(rule)
            self.assertTrue(needed is None or needed <= rule.size)
            self.assertIs(needed is None, 0 in closed_states(rule))

    def test_both_ways_together(self):
        one = Rule([[1, 1, N, N], [1, 1, 1, 1]])
        other = Rule([[1, N, 1, N], [1, 1, 1, 1]])
        self.assertEqual([1, 1, None], [rounds_needed(one), rounds_needed(other), rounds_needed(one | other)])

    def test_the_rule_stays(self):
        for rule in RULES:
            before = rule.rows
            self.assertEqual(rounds_needed(rule), rounds_needed(rule))
            closed_states(rule)
            self.assertEqual(before, rule.rows)
