"""The whole program: what its parts promise together. Points 1, 6, 14, 15, 18 to 20, 25 and 29."""

import random
from itertools import product

from bothsure.chains import Chain, spin
from bothsure.closing import closed_states, is_closed, passable, rounds_needed
from bothsure.deciding import Decider, shown
from bothsure.errors import CannotDecide, NoChain
from bothsure.forbidding import fewest_to_forbid, forbid
from bothsure.known import anything, at_most_lost, falls_silent, losses_apart, no_run, one_way, reliable
from bothsure.letters import End, join_views, rounds_of
from bothsure.notation import format_rule, parse_rule
from bothsure.rules import Rule
from bothsure.runs import Run, alike
from bothsure.words import apart, count, words
from tests.reference import random_run, random_tables
from tests.timing import TimedCase

KNOWN = [anything(), no_run(), reliable(), falls_silent(), at_most_lost(0), at_most_lost(1), at_most_lost(2),
         one_way("first"), one_way("second"), losses_apart(0), losses_apart(1), losses_apart(3)]
RULES = KNOWN + [Rule(table) for table in random_tables(81, 80, 5)]
LARGE = [Rule(table) for table in random_tables(82, 30, 36)] + [at_most_lost(60), losses_apart(60)]
BITS = [(0, 0), (0, 1), (1, 0), (1, 1)]


def play(first, second, fates):
    """Let two ends take part in a run, letter by letter, and return their views."""
    one, other = End("first", first), End("second", second)
    for fate in fates:
        letters = (other.view, one.view)
        one.receive(letters[0] if fate in "bf" else None)
        other.receive(letters[1] if fate in "bs" else None)
    return one.view, other.view


class LettersAndDecisionsTest(TimedCase):
    def assert_decided(self, decider, rule, first, second, fates):
        views = play(first, second, fates)
        bits = [decider(end, view) for end, view in zip(("first", "second"), views)]
        self.assertEqual(bits[0], bits[1])
        self.assertIn(bits[0], (first, second))
        for end, view in zip(("first", "second"), views):
            self.assertIs(True, shown(rule, end, view))
            self.assertEqual(decider.rounds, rounds_of(view))
        run = join_views(*views)
        self.assertEqual((first, second, fates), (run.first, run.second, run.fates))

    def test_all_runs_of_small_rules(self):
        decided = 0
        for rule in RULES:
            needed = rounds_needed(rule)
            if needed is None or needed > 3:
                continue
            for rounds in range(needed, 5):
                decider = Decider(rule, rounds=rounds)
                for fates in words(rule, rounds=rounds):
                    for first, second in BITS:
                        self.assert_decided(decider, rule, first, second, fates)
                        decided += 1
        self.assertGreater(decided, 3000)

    def test_some_runs_of_large_rules(self):
        for rule in LARGE:
            if rounds_needed(rule) is None or rule.empty:
                continue
            for decider in [Decider(rule)] + [Decider(rule, rounds=60) for _ in range(rounds_needed(rule) <= 60)]:
                for seed in range(5):
                    self.assert_decided(decider, rule, *random_run(seed, rule.rows, decider.rounds))

    def test_no_rule_for_the_letters(self):
        # Views of runs that the rule does not allow are never seen under it.
        for rule in (reliable(), falls_silent(), at_most_lost(1)):
            for fates in words(anything(), rounds=3):
                views = play(0, 1, fates)
                for end, view in zip(("first", "second"), views):
                    expected = any(Run(0, 1, other).seen(end) == view for other in words(rule, rounds=3))
                    self.assertIs(expected, shown(rule, end, view))


class SureOrChainTest(TimedCase):
    def test_exactly_one_of_both(self):
        for rule in RULES + LARGE:
            needed = rounds_needed(rule)
            for rounds in list(range(8)) + [30, 59, 60]:
                if needed is not None and rounds >= needed:
                    self.assertEqual(rounds, Decider(rule, rounds=rounds).rounds)
                    with self.assertRaises(NoChain):
                        Chain(rule, rounds=rounds)
                else:
                    chain = Chain(rule, rounds=rounds)
                    self.assertEqual(rounds, chain.rounds)
                    with self.assertRaises(CannotDecide):
                        Decider(rule, rounds=rounds)
                    for at in (0, 1, chain.length // 2, chain.length - 2):
                        one, other = chain[at], chain[at + 1]
                        self.assertTrue(alike(one, other, to="first") or alike(one, other, to="second"))

    def test_spin_where_the_ends_can_never_be_sure(self):
        for rule in RULES:
            states = closed_states(rule)
            self.assertIs(0 in states, rounds_needed(rule) is None)
            if 0 in states:
                for rounds in range(4):
                    runs = list(spin(rule, states, rounds=rounds))
                    self.assertGreaterEqual(len(runs), Chain(rule, rounds=rounds).length)
                    for one, other in zip(runs, runs[1:]):
                        self.assertTrue(alike(one, other, to="first") or alike(one, other, to="second"))

    def test_the_chain_is_allowed(self):
        for rule in RULES:
            for rounds in range(4):
                if not rule.empty and 0 in passable(rule, rounds=rounds):
                    chain = Chain(rule, rounds=rounds)
                    for run in chain.piece(0, chain.length):
                        self.assertIn(run.fates, rule)

    def test_what_is_left_when_arrows_are_forbidden(self):
        for rule in RULES:
            if rule.size > 5:
                continue
            arrows = fewest_to_forbid(rule)
            if arrows is None:
                self.assertTrue(rule.empty or count(rule, rounds=60) == 1)
                continue
            left = forbid(rule, arrows)
            decider = Decider(left)
            self.assertIsNone(apart(left, rule))
            self.assertIs(True, left <= rule)
            for seed in range(5):
                first, second, fates = random_run(seed, left.rows, decider.rounds)
                views = play(first, second, fates)
                self.assertEqual(decider("first", views[0]), decider("second", views[1]))


class RulesTest(TimedCase):
    def test_the_two_ends_exchanged(self):
        for rule in RULES + LARGE:
            other = ~rule
            self.assertEqual(rounds_needed(rule), rounds_needed(other))
            for rounds in (0, 1, 2, 3, 7, 60):
                self.assertEqual(len(passable(rule, rounds=rounds)), len(passable(other, rounds=rounds)))
                if not rule.empty and 0 in passable(rule, rounds=rounds):
                    self.assertEqual(Chain(rule, rounds=rounds).length, Chain(other, rounds=rounds).length)
            self.assertEqual(other.rows, parse_rule(format_rule(other)).rows)

    def test_views_of_the_two_ends_exchanged(self):
        for rule in RULES[:40]:
            for fates in words(anything(), rounds=3):
                run = Run(0, 1, fates)
                self.assertIs(shown(rule, "first", run.seen("first")),
                              shown(~rule, "second", run.swapped().seen("second")))

    def test_a_rule_within_another_needs_no_more_rounds(self):
        chooser = random.Random(83)
        pairs = [(left, right) for left, right in product(RULES, RULES) if chooser.randrange(12) == 0]
        within = 0
        for left, right in pairs + [(left & right, right) for left, right in pairs[:300]]:
            if left <= right and rounds_needed(right) is not None:
                within += 1
                self.assertLessEqual(rounds_needed(left), rounds_needed(right))
                # What is decided under the wider rule can be decided under the narrower one, too.
                rounds = rounds_needed(right)
                self.assertEqual(rounds, Decider(left, rounds=rounds).rounds)
                if not left.empty:
                    decider = Decider(right)
                    first, second, fates = random_run(within, left.rows, rounds)
                    views = play(first, second, fates)
                    self.assertEqual(decider("first", views[0]), decider("second", views[1]))
        self.assertGreater(within, 60)

    def test_equal_rules_have_equal_answers(self):
        for rule in RULES:
            same = parse_rule(format_rule(rule))
            self.assertEqual(rule, same)
            self.assertEqual(closed_states(rule), closed_states(same))
            if rule.size <= 5:
                self.assertEqual(fewest_to_forbid(rule), fewest_to_forbid(same))
            needed = rounds_needed(rule)
            if needed is not None and not rule.empty:
                one, other = Decider(rule), Decider(same)
                for seed in range(5):
                    run = Run(*random_run(seed, rule.rows, needed))
                    for end in ("first", "second"):
                        self.assertEqual(one(end, run.seen(end)), other(end, run.seen(end)))

    def test_no_rule_is_changed(self):
        for rule in RULES[:40]:
            before = format_rule(rule)
            states = closed_states(rule)
            is_closed(rule, states)
            fewest_to_forbid(rule) if rule.size <= 5 else None
            forbid(rule, [(state, "b") for state in range(rule.size)])
            if rounds_needed(rule) is not None:
                Decider(rule)
            if 0 in states:
                list(spin(rule, states, rounds=2))
                list(Chain(rule, rounds=2).piece(0, 9))
            self.assertEqual(before, format_rule(rule))
            self.assertEqual(rule.rows, parse_rule(before).rows)
