"""bothsure/deciding.py: points 1, 5, 10, 14, 18 to 21, 28 and 29."""

from itertools import product

from bothsure.closing import rounds_needed
from bothsure.deciding import Decider, shown
from bothsure.errors import CannotDecide, InvalidCount, InvalidEnd, NeverSeen
from bothsure.known import anything, at_most_lost, falls_silent, losses_apart, no_run, one_way, reliable
from bothsure.letters import rounds_of
from bothsure.rules import Rule
from bothsure.runs import Run
from tests.reference import (
    all_runs, allowed, cycle, decisions, ladder, random_run, random_tables, shown_views, some_views, strings,
    view_by_letters,
)
from tests.timing import TimedCase

N = None
TABLES = [
    [[0, N, N, N]],
    [[0, 0, N, N]],
    [[0, N, 0, N]],
    [[N, 0, 0, N]],
    [[N, 0, N, N]],
    [[1, 1, N, N], [1, 1, 1, 1]],
    [[1, N, 1, N], [1, 1, 1, 1]],
    [[N, 1, 1, N], [1, 1, 1, 1]],
    [[0, 1, 2, N], [N, 1, N, N], [N, N, 2, N]],
    [[0, 1, 1, N], [0, N, N, N]],
    [[0, 1, 1, N], [1, N, N, N]],
    [[0, 1, 1, 2], [1, 2, 2, N], [2, N, N, N]],
    [[1, 1, 1, N], [2, 2, 2, N], [2, N, N, N]],
    [[N, N, N, 1], [1, 2, 2, N], [2, 2, N, N]],
    [[1, 1, 1, 2], [2, N, 2, N], [1, 1, N, N]],
    [[1, 2, 3, N], [2, 3, 1, N], [3, 1, 2, N], [3, N, N, N]],
    [[0, 1, 1, 2], [N, 2, N, N], [N, N, N, N]],
    [[1, N, N, N], [N, N, N, N]],
    [],
]
# Tables under which the ends can be sure within three rounds, so that all runs can be gone through.
SURE = [table for table in TABLES + random_tables(41, 150, 5) if rounds_needed(Rule(table)) in (0, 1, 2, 3)]
NEVER = [[[0, 0, 0, 0]], [[N, N, N, 0]], [[0, 0, 0, N]], [[N, N, N, 1], [0, 0, 0, N]]]
VIEWS = some_views(3, 4)
FEW_VIEWS = some_views(2, 3)
WRONG_ENDS = ["", "third", "First", "firs", "second ", "f", "firstsecond"]
WRONG_COUNTS = (-1, 61, 62, -60, 10 ** 59, -10 ** 59)


class ShownTest(TimedCase):
    def test_all_short_views(self):
        for table in TABLES + NEVER + random_tables(42, 25, 5):
            rule = Rule(table)
            expected = {pair for rounds in range(5) for pair in shown_views(table, rounds)}
            for end in ("first", "second"):
                for view in VIEWS:
                    if rounds_of(view) < 5:
                        self.assertIs((end, view) in expected, shown(rule, end, view), (table, end, view))

    def test_by_hand(self):
        rule = falls_silent()
        for end, view in [("first", (0, 1, "bf", 0)), ("first", (0, 0, "", 3)), ("second", (1, 0, "b", 4)),
                          ("first", (1, None, "", 2)), ("second", (0, None, "", 0))]:
            self.assertIs(True, shown(rule, end, view))
        for end, view in [("first", (0, 1, "s", 0)), ("second", (1, 0, "fs", 0)), ("first", (1, 0, "fb", 0)),
                          ("first", (0, 1, "bn", 0)), ("first", (0, 1, "bf", 1))]:
            self.assertIs(False, shown(rule, end, view))

    def test_views_that_no_run_shows(self):
        for rule in (anything(), falls_silent(), reliable(), no_run()):
            for end in ("first", "second"):
                for known in ("b", "n", "s", "f", "bb", "ffff"):
                    for silent in (0, 1, 2, 5):
                        self.assertIs(False, shown(rule, end, (0, None, known, silent)))

    def test_under_anything(self):
        for own, other, known, silent in VIEWS:
            for end in ("first", "second"):
                expected = other is not None or known == ""
                self.assertIs(expected, shown(anything(), end, (own, other, known, silent)))

    def test_empty_rules(self):
        for rule in (no_run(), Rule([[1, N, N, N], [N, N, N, N]])):
            for end in ("first", "second"):
                for view in VIEWS:
                    self.assertIs(False, shown(rule, end, view))

    def test_what_cannot_go_on_is_not_allowed(self):
        rule = Rule([[0, 1, 1, 2], [N, 2, N, N], [N, N, N, N]])
        self.assertIs(True, shown(rule, "first", (0, 1, "bbb", 0)))
        for end, view in [("first", (0, 1, "f", 0)), ("first", (0, None, "", 1)), ("second", (0, 1, "b", 1)),
                          ("second", (0, 1, "bf", 0))]:
            self.assertIs(False, shown(rule, end, view))

    def test_the_silent_rounds_count(self):
        rule = Rule([[0, 1, N, N], [2, N, N, N], [2, N, N, N]])
        self.assertIs(True, shown(rule, "second", (0, 1, "b", 1)))
        self.assertIs(False, shown(rule, "second", (0, 1, "b", 2)))
        self.assertIs(False, shown(rule, "first", (0, 1, "b", 1)))
        rule = Rule([[N, N, N, 1], [0, N, N, N]])
        self.assertEqual([True, True, False], [shown(rule, "first", (0, None, "", silent)) for silent in range(3)])

    def test_wrong_ends(self):
        for rule in (anything(), no_run(), reliable()):
            for wrong in WRONG_ENDS:
                for view in [(0, None, "", 0), (0, None, "b", 2), (0, 1, "nnn", 0)]:
                    with self.assertRaises(InvalidEnd) as held:
                        shown(rule, wrong, view)
                    self.assertEqual(wrong, held.exception.end)

    def test_largest_sizes(self):
        rule = Rule(cycle(120, "s", everywhere="bn"))
        self.assertEqual(120, rule.size)
        asked = [("first", (0, 1, "bn" * 59 + "n", 0)), ("second", (0, 1, "", 119)), ("first", (0, None, "", 120)),
                 ("first", (1, 0, "s" + "n" * 99, 19)), ("second", (1, 0, "n" * 119 + "s", 0)),
                 ("first", (1, 0, "n" * 110 + "s", 8)), ("second", (1, 0, "nn", 117))]
        found = self.assert_quick(lambda: [shown(rule, end, view) for end, view in asked])
        self.assertEqual([True, True, True, True, False, False, True], found)
        many = Rule([[(7 * state + more) % 120 if state + more < 125 else N for more in (1, 2, 3, 5)]
                     for state in range(120)])
        for seed in range(20):
            run = Run(*random_run(seed, many.rows, 120))
            for end in ("first", "second"):
                self.assertIs(True, self.assert_quick(lambda: shown(many, end, run.seen(end))))

    def test_the_rule_stays(self):
        for table in TABLES:
            rule = Rule(table)
            before = rule.rows
            shown(rule, "first", (0, 1, "b", 2))
            self.assertEqual(before, rule.rows)


class DeciderTest(TimedCase):
    def each(self, most=4):
        """The tables with a decider for each number of rounds in which all runs can be gone through."""
        for table in SURE:
            rule = Rule(table)
            yield table, Decider(rule)
            for rounds in range(rounds_needed(rule), most + 1):
                yield table, Decider(rule, rounds=rounds)

    def assert_agreed(self, decider, first, second, fates):
        """Check what the ends must hold to in a run, and return what they decide on."""
        views = view_by_letters(first, second, fates)
        bits = [decider(end, view) for end, view in zip(("first", "second"), views)]
        self.assertEqual(bits[0], bits[1], (first, second, fates))
        self.assertIn(bits[0], (first, second))
        self.assertEqual([int, int], [type(bit) for bit in bits])
        return bits[0]

    def test_enough_tables(self):
        self.assertGreater(len(SURE), 80)
        self.assertEqual({0, 1, 2, 3}, {rounds_needed(Rule(table)) for table in SURE})

    def test_both_ends_decide_alike(self):
        found = set()
        for table, decider in self.each():
            for first, second, fates in all_runs(table, decider.rounds):
                bit = self.assert_agreed(decider, first, second, fates)
                found.add((first, second, bit))
        self.assertEqual({(0, 0, 0), (0, 1, 0), (0, 1, 1), (1, 0, 0), (1, 0, 1), (1, 1, 1)}, found)

    def test_lists_of_runs(self):
        for table, decider in self.each():
            for (end, view), bit in decisions(table, decider.rounds).items():
                self.assertEqual(bit, decider(end, view), (table, end, view))

    def test_views_never_seen(self):
        for table, decider in self.each(3):
            seen = shown_views(table, decider.rounds)
            for end in ("first", "second"):
                for view in FEW_VIEWS:
                    if (end, view) not in seen:
                        with self.assertRaises(NeverSeen) as held:
                            decider(end, view)
                        self.assertIs(view, held.exception.wrong_view)

    def test_by_hand(self):
        decider = Decider(falls_silent())
        self.assertEqual([1, 0], [decider("first", (0, 1, "f", 0)), decider("second", (1, 0, "", 1))])
        decider = Decider(reliable())
        self.assertEqual([0, 0, 1, 1], [decider("first", (0, 1, "", 0)), decider("second", (1, 0, "", 0)),
                                        decider("first", (1, 0, "", 0)), decider("second", (0, 1, "", 0))])
        # Under `f` the second end hears nothing and decides on its own bit, so the first end must take it, too.
        decider = Decider(one_way("first"))
        self.assertEqual([1, 1, 1], [decider("first", (0, 1, "", 0)), decider("second", (1, 0, "", 0)),
                                     decider("second", (1, None, "", 1))])

    def test_own_bit_where_nothing_else_is_known(self):
        decider = Decider(at_most_lost(2))
        for end in ("first", "second"):
            for bit in (0, 1):
                self.assertEqual(bit, decider(end, (bit, bit, "b", 1)))
                self.assertEqual(bit, decider(end, (bit, bit, "", 2)))
        decider = Decider(one_way("second"))
        self.assertEqual([0, 1], [decider("first", (bit, None, "", 1)) for bit in (0, 1)])
        for fates in "bs":
            self.assertEqual([0, 1], [self.assert_agreed(decider, first, 1 - first, fates) for first in (0, 1)])

    def test_rounds(self):
        for table in SURE:
            rule = Rule(table)
            needed = rounds_needed(rule)
            self.assertEqual([needed, needed], [Decider(rule).rounds, Decider(rule, rounds=None).rounds])
            for rounds in (needed, needed + 1, 59, 60):
                self.assertEqual(rounds, Decider(rule, rounds=rounds).rounds)
            for rounds in range(needed):
                with self.assertRaises(CannotDecide) as held:
                    Decider(rule, rounds=rounds)
                self.assertEqual({}, vars(held.exception))

    def test_never_sure(self):
        for table in NEVER:
            for rounds in (None, 0, 1, 2, 59, 60):
                with self.assertRaises(CannotDecide):
                    Decider(Rule(table), rounds=rounds)
            with self.assertRaises(CannotDecide):
                Decider(Rule(table))

    def test_wrong_counts(self):
        for table in SURE[:20] + NEVER + [[], ladder(40, (0, 1, 1, 2))]:
            for wrong in WRONG_COUNTS:
                with self.assertRaises(InvalidCount) as held:
                    Decider(Rule(table), rounds=wrong)
                self.assertEqual(wrong, held.exception.amount)

    def test_rounds_by_keyword_only(self):
        with self.assertRaises(TypeError):
            Decider(reliable(), 1)

    def test_wrong_ends(self):
        for rule in (no_run(), reliable(), falls_silent()):
            decider = Decider(rule)
            for wrong in WRONG_ENDS:
                for view in [(0, None, "", 0), (0, None, "b", 2), (0, 1, "", 0), (0, 1, "nnn", 0)]:
                    with self.assertRaises(InvalidEnd) as held:
                        decider(wrong, view)
                    self.assertEqual(wrong, held.exception.end)

    def test_never_seen_before_the_decision(self):
        decider = Decider(falls_silent())
        for view in [(0, None, "", 1), (0, 0, "", 0), (0, 0, "b", 1), (1, 1, "s", 0), (1, None, "b", 2),
                     (1, 1, "n", 0), (0, None, "", 3), (0, 1, "bb", 0), (0, 1, "", 2)]:
            with self.assertRaises(NeverSeen) as held:
                decider("first", view)
            self.assertIs(view, held.exception.wrong_view)

    def test_empty_rules(self):
        for rule in (no_run(), Rule([[1, N, N, N], [N, N, N, N]])):
            for rounds in (None, 0, 1, 60):
                decider = Decider(rule, rounds=rounds)
                self.assertEqual(rounds or 0, decider.rounds)
                for end, view in product(("first", "second"), VIEWS):
                    with self.assertRaises(NeverSeen) as held:
                        decider(end, view)
                    self.assertIs(view, held.exception.wrong_view)

    def test_objects_stay(self):
        rule = falls_silent()
        decider = Decider(rule)
        before = vars(decider).copy()
        view = (0, 1, "f", 0)
        self.assertEqual([1, 1], [decider("first", view), decider("first", view)])
        with self.assertRaises(NeverSeen):
            decider("first", (0, 1, "s", 0))
        self.assertEqual(before, vars(decider))
        self.assertEqual(falls_silent().rows, rule.rows)

    def test_a_table_that_is_changed_later(self):
        table = [[0, 1, 2, N], [N, 1, N, N], [N, N, 2, N]]
        decider = Decider(Rule(table))
        table[0][3] = 0
        table.clear()
        self.assertEqual([1, 0], [decider("first", (0, 1, "f", 0)), decider("second", (1, 0, "", 1))])

    def test_more_rounds_than_needed_in_full(self):
        for rule in (falls_silent(), at_most_lost(1), one_way("first"), one_way("second"), losses_apart(2)):
            for rounds in range(rounds_needed(rule), 6):
                decider = Decider(rule, rounds=rounds)
                expected = decisions(rule.rows, rounds)
                for (end, view), bit in expected.items():
                    self.assertEqual(bit, decider(end, view))

    def test_more_than_sixty_rounds(self):
        rule = at_most_lost(60)
        decider = Decider(rule)
        self.assertEqual(61, decider.rounds)
        with self.assertRaises(CannotDecide):
            Decider(rule, rounds=60)
        with self.assertRaises(InvalidCount):
            Decider(rule, rounds=61)
        bits = [self.assert_agreed(decider, *random_run(seed, rule.rows, 61)) for seed in range(60)]
        self.assertEqual({0, 1}, set(bits))
        for fates in ("f" * 60 + "b", "s" * 60 + "b", "n" * 30 + "b" * 31, "b" * 61, "fs" * 30 + "b"):
            self.assertTrue(allowed(rule.rows, fates))
            for first, second in product((0, 1), repeat=2):
                self.assert_agreed(decider, first, second, fates)
        with self.assertRaises(NeverSeen):
            decider("first", (0, None, "", 60))
        with self.assertRaises(NeverSeen):
            decider("first", (0, None, "", 61))

    def test_largest_rules(self):
        for row in [(N, N, N, 1), (1, 1, 1, N), (0, 1, 1, 2), (0, 1, 1, N), (1, 1, 1, 1), (0, 1, N, 1), (0, 1, 1, 1)]:
            rule = Rule(ladder(120, row))
            decider = self.assert_quick(lambda: Decider(rule))
            self.assertEqual(120, decider.rounds)
            for seed in range(8):
                run = random_run(seed, rule.rows, 120)
                self.assert_quick(lambda: self.assert_agreed(decider, *run))

    def test_largest_rules_and_more_rounds(self):
        small = [table for table in SURE if table and allowed(table, "")]
        for at, table in enumerate(small[:40]):
            rule = Rule(table)
            for rounds in (30, 60):
                decider = Decider(rule, rounds=rounds)
                for seed in range(4):
                    self.assert_agreed(decider, *random_run(100 * at + seed, rule.rows, rounds))

    def test_long_strings_under_a_rule_of_one_loss(self):
        # In sixty rounds, all runs: no loss, or one letter lost in one of the rounds.
        rule = at_most_lost(1)
        decider = Decider(rule, rounds=60)
        runs = ["b" * 60] + ["b" * at + fate + "b" * (59 - at) for at in range(60) for fate in "fs"]
        for fates in runs:
            for first, second in product((0, 1), repeat=2):
                self.assert_agreed(decider, first, second, fates)

    def test_random_larger_rules(self):
        found = 0
        for at, table in enumerate(random_tables(43, 300, 12)):
            rule = Rule(table)
            if rounds_needed(rule) is None or rounds_needed(rule) < 3:
                continue
            found += 1
            for rounds in (None, rounds_needed(rule) + 2, 60):
                decider = Decider(rule, rounds=rounds)
                for seed in range(10):
                    self.assert_agreed(decider, *random_run(100 * at + seed, rule.rows, decider.rounds))
        self.assertGreater(found, 5)

    def test_all_runs_of_four_rounds(self):
        for rule in (at_most_lost(3), Rule(ladder(4, (1, 1, 1, N))), Rule(ladder(4, (0, 1, N, 1)))):
            decider = Decider(rule)
            self.assertEqual(4, decider.rounds)
            for fates in [fates for fates in strings(4) if len(fates) == 4 and fates in rule]:
                for first, second in product((0, 1), repeat=2):
                    self.assert_agreed(decider, first, second, fates)
            for (end, view), bit in decisions(rule.rows, 4).items():
                self.assertEqual(bit, decider(end, view))
