"""bothsure/words.py: points 1, 3, 10, 13, 28 and 29."""

import random
from itertools import islice

from bothsure.errors import InvalidCount
from bothsure.known import anything, at_most_lost, falls_silent, losses_apart, no_run, one_way, reliable
from bothsure.rules import Rule
from bothsure.words import apart, count, words
from tests.reference import allowed, cycle, disguised, random_table, random_tables, strings
from tests.timing import TimedCase

N = None
TABLES = [
    [],
    [[N, N, N, N]],
    [[0, 0, 0, 0]],
    [[0, N, N, N]],
    [[N, N, N, 0]],
    [[N, 0, 0, N]],
    [[1, N, 1, N], [1, 1, 1, 1]],
    [[0, 1, N, N], [0, N, N, N]],
    [[0, 1, 2, N], [N, 1, N, N], [N, N, 2, N]],
    [[0, 1, 1, 2], [1, 2, 2, N], [2, N, N, N]],
    [[2, N, 1, N], [N, N, N, N], [2, N, N, 1]],
    [[0, 1, 1, 2], [N, 2, N, N], [N, N, N, N]],
    [[0, 0, 1, N], [1, N, N, N]],
]
RANDOM = random_tables(21, 60, 5)
SMALL = [table for table in TABLES + random_tables(22, 25, 2) if len(Rule(table).rows) <= 2]
WRONG_COUNTS = (-1, 61, 62, -60, 10 ** 59, -10 ** 59)
SHORT = strings(5)


def hand_words(table, rounds):
    """The strings of that length in order: `strings` lists each length in the order of point 3."""
    return [fates for fates in SHORT if len(fates) == rounds and allowed(table, fates)]


class WordsTest(TimedCase):
    def test_strings_in_order(self):
        for table in TABLES + RANDOM:
            rule = Rule(table)
            for rounds in range(5):
                self.assertEqual(hand_words(table, rounds), list(words(rule, rounds=rounds)))

    def test_order_of_the_fates(self):
        self.assertEqual(["b", "f", "s", "n"], list(words(anything(), rounds=1)))
        self.assertEqual(["bb", "bf", "bs", "bn", "fb", "ff", "fs", "fn",
                          "sb", "sf", "ss", "sn", "nb", "nf", "ns", "nn"], list(words(anything(), rounds=2)))

    def test_no_round(self):
        for table in TABLES + RANDOM:
            self.assertEqual([""] if allowed(table, "") else [], list(words(Rule(table), rounds=0)))

    def test_empty_rules(self):
        for rounds in (0, 1, 2, 59, 60):
            self.assertEqual([], list(words(no_run(), rounds=rounds)))
            self.assertEqual([], list(words(Rule([[1, N, N, N], [N, N, N, N]]), rounds=rounds)))

    def test_only_what_can_go_on(self):
        self.assertEqual(["bbb"], list(words(Rule([[0, 1, 1, 2], [N, 2, N, N], [N, N, N, N]]), rounds=3)))

    def test_sixty_rounds_one_by_one(self):
        def first_ones():
            self.assertEqual("b" * 60, next(iter(words(anything(), rounds=60))))
            found = list(islice(words(anything(), rounds=60), 1000))
            expected = ["b" * 55 + fates for fates in SHORT if len(fates) == 5][:1000]
            self.assertEqual(expected, found)
            ones = words(one_way("second"), rounds=60)
            self.assertEqual(["b" * 60, "b" * 59 + "s", "b" * 58 + "sb"], [next(ones), next(ones), next(ones)])
        self.assert_quick(first_ones)

    def test_sixty_rounds_in_full(self):
        expected = ["b" * 60] + ["b" * at + "f" * (60 - at) for at in range(59, -1, -1)]
        expected += ["b" * at + "s" * (60 - at) for at in range(59, -1, -1)]
        expected = sorted(expected, key=lambda fates: ["bfsn".index(fate) for fate in fates])
        self.assertEqual(expected, self.assert_quick(lambda: list(words(falls_silent(), rounds=60))))
        self.assertEqual(["b" * 60], list(words(reliable(), rounds=60)))
        self.assertEqual(["n" * 60], list(words(Rule([[N, N, N, 0]]), rounds=60)))

    def test_largest_rule(self):
        rule = Rule(cycle(120, "sn", everywhere="bf"))
        self.assertEqual(120, rule.size)
        found = self.assert_quick(lambda: list(islice(words(rule, rounds=60), 500)))
        self.assertEqual(["b" * 60, "b" * 59 + "f", "b" * 58 + "fb"], found[:3])
        self.assertEqual(500, len(set(found)))

    def test_two_at_a_time(self):
        rule = at_most_lost(1)
        one, other = words(rule, rounds=2), words(rule, rounds=2)
        self.assertEqual(["bb", "bf", "bb", "bs"], [next(one), next(one), next(other), next(one)])
        self.assertEqual(["bf", "bs", "fb", "sb"], list(other))
        self.assertEqual(["fb", "sb"], list(one))

    def test_wrong_counts(self):
        for table in TABLES:
            for wrong in WRONG_COUNTS:
                with self.assertRaises(InvalidCount) as held:
                    next(iter(words(Rule(table), rounds=wrong)), None)
                self.assertEqual(wrong, held.exception.amount)
                with self.assertRaises(InvalidCount):
                    list(words(Rule(table), rounds=wrong))

    def test_rounds_by_keyword_only(self):
        with self.assertRaises(TypeError):
            words(reliable(), 1)

    def test_the_rule_stays(self):
        for table in TABLES:
            rule = Rule(table)
            before = rule.rows
            list(words(rule, rounds=3))
            self.assertEqual(before, rule.rows)


class CountTest(TimedCase):
    def test_short_strings(self):
        for table in TABLES + RANDOM:
            rule = Rule(table)
            for rounds in range(5):
                self.assertEqual(len(hand_words(table, rounds)), count(rule, rounds=rounds))

    def test_as_many_as_words(self):
        for rule in (falls_silent(), at_most_lost(2), losses_apart(2)):
            for rounds in range(9):
                self.assertEqual(len(list(words(rule, rounds=rounds))), count(rule, rounds=rounds))

    def test_no_round(self):
        self.assertEqual([1, 1, 0], [count(rule, rounds=0) for rule in (anything(), reliable(), no_run())])

    def test_empty_rules(self):
        for rounds in (0, 1, 60):
            self.assertEqual(0, count(no_run(), rounds=rounds))

    def test_far_too_many_to_go_through(self):
        self.assertEqual(4 ** 60, self.assert_quick(lambda: count(anything(), rounds=60)))
        self.assertEqual(2 ** 60, count(one_way("first"), rounds=60))
        self.assertEqual(121, count(falls_silent(), rounds=60))
        # One loss in sixty rounds, or two that are 30 to 58 rounds of `b` apart.
        self.assertEqual(1 + 3 * 60 + 9 * sum(59 - between for between in range(30, 59)),
                         count(losses_apart(30), rounds=60))
        # No letter, one letter, two of one round, or two of different rounds.
        self.assertEqual(1 + 120 + 60 + 4 * (60 * 59 // 2), count(at_most_lost(2), rounds=60))

    def test_largest_rule(self):
        rule = Rule(cycle(120, "n", everywhere="bfs"))
        self.assertEqual(120, rule.size)
        self.assertEqual(4 * 3 ** 59, self.assert_quick(lambda: count(rule, rounds=60)))

    def test_wrong_counts(self):
        for table in TABLES:
            for wrong in WRONG_COUNTS:
                with self.assertRaises(InvalidCount) as held:
                    count(Rule(table), rounds=wrong)
                self.assertEqual(wrong, held.exception.amount)

    def test_rounds_by_keyword_only(self):
        with self.assertRaises(TypeError):
            count(reliable(), 1)


class ApartTest(TimedCase):
    def first_short(self, left, right):
        """The first string that is short and shows the difference, by a search by length and order."""
        return next((fates for fates in SHORT if allowed(left, fates) and not allowed(right, fates)), None)

    def test_small_rules(self):
        # Two states each: behind equal strings there are at most four pairs, so short strings show all.
        found = []
        for left in SMALL:
            for right in SMALL:
                expected = self.first_short(left, right)
                self.assertEqual(expected, apart(Rule(left), Rule(right)))
                found.append(expected)
        self.assertTrue(None in found)
        self.assertEqual({0, 1, 2, 3, 4}, {len(fates) for fates in found if fates is not None})

    def test_larger_rules(self):
        for left, right in zip(RANDOM, RANDOM[1:]):
            one, other = Rule(left), Rule(right)
            expected, fates = self.first_short(left, right), apart(one, other)
            if expected is not None or fates is None:
                self.assertEqual(expected, fates)
            else:
                self.assertGreater(len(fates), 5)
                self.assertTrue(fates in one and fates not in other)
            self.assertIs(fates is None, one <= other)

    def test_shorter_before_earlier_in_order(self):
        # `bf` comes before `n` in the order of the fates, but `n` is shorter.
        left = Rule([[1, N, N, 2], [0, 0, N, N], [2, N, N, N]])
        right = Rule([[1, N, N, N], [0, N, N, N]])
        self.assertEqual("n", apart(left, right))

    def test_first_among_the_shortest(self):
        self.assertEqual("f", apart(anything(), reliable()))
        self.assertEqual("s", apart(anything(), one_way("first")))
        self.assertEqual("bf", apart(anything(), Rule([[1, 1, 1, 1], [0, N, N, N]])))
        self.assertEqual("bn", apart(at_most_lost(2), at_most_lost(1) | Rule([[1, N, N, 1], [0, N, N, N]])))
        # Both `fn` and `sb` show the difference.
        left = Rule([[1, 1, 1, N], [1, 1, 1, 1]])
        right = Rule([[1, 2, 3, N], [1, 1, 1, 1], [1, 1, 1, N], [N, 1, 1, 1]])
        self.assertEqual("fn", apart(left, right))

    def test_empty_rules(self):
        for table in TABLES + RANDOM:
            self.assertIsNone(apart(no_run(), Rule(table)))
            self.assertEqual("" if allowed(table, "") else None, apart(Rule(table), no_run()))

    def test_equal_rules(self):
        for seed, table in enumerate(TABLES[1:] + RANDOM):
            self.assertIsNone(apart(Rule(table), Rule(table)))
            self.assertIsNone(apart(Rule(table), Rule(disguised(seed, table))))
            self.assertIsNone(apart(Rule(table), anything()))

    def test_the_difference_may_be_on_either_side(self):
        one, other = one_way("first"), one_way("second")
        self.assertEqual(["f", "s"], [apart(one, other), apart(other, one)])

    def test_strings_that_lead_nowhere_are_not_allowed(self):
        left = Rule([[0, 1, N, N], [N, N, N, N]])
        self.assertIsNone(apart(left, reliable()))
        self.assertEqual("f", apart(Rule([[0, 0, N, N]]), left))

    def test_largest_sizes(self):
        # 61 and 65 have no common divisor, so all pairs of states are met.
        left, right = Rule(cycle(61, "f")), Rule(cycle(65, "s", everywhere="bf"))
        self.assertIsNone(self.assert_quick(lambda: apart(left, right)))
        self.assertEqual("s", self.assert_quick(lambda: apart(right, left)))
        almost = cycle(65, "s", everywhere="bf")
        almost[64][1] = N
        at = next(at for at in range(61 * 65) if at % 61 == 0 and at % 65 == 64)
        self.assertEqual("b" * at + "f", self.assert_quick(lambda: apart(left, Rule(almost))))
        long = Rule(cycle(120, "n"))
        self.assertEqual(120, long.size)
        self.assertEqual("b" * 33 + "n", self.assert_quick(lambda: apart(Rule(cycle(33, "n")), long)))
        self.assertEqual("b" * 120 + "n", self.assert_quick(lambda: apart(long, Rule(cycle(33, "n")))))

    def test_largest_random_rules(self):
        chooser = random.Random(23)
        for missing in (20, 40, 50):
            left, right = random_table(chooser, 60, missing), random_table(chooser, 60, missing)
            expected = self.first_short(left, right)
            self.assertIsNotNone(expected)
            self.assertEqual(expected, self.assert_quick(lambda: apart(Rule(left), Rule(right))))

    def test_the_rules_stay(self):
        for left, right in zip(SMALL, SMALL[1:]):
            one, other = Rule(left), Rule(right)
            before = (one.rows, other.rows)
            apart(one, other)
            self.assertEqual(before, (one.rows, other.rows))
