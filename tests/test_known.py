"""bothsure/known.py: points 2, 10, 11 and 28. Each rule is compared with its own sentence."""

import unittest

from bothsure.errors import InvalidCount, InvalidEnd
from bothsure.known import anything, at_most_lost, falls_silent, losses_apart, no_run, one_way, reliable
from bothsure.rules import Rule
from tests.reference import different_states, numbered_as_met, strings

N = None
SHORT = strings(5)
WRONG_COUNTS = (-1, 61, 62, -60, 10 ** 59, -10 ** 59)
MAKERS = [
    anything, no_run, reliable, falls_silent,
    lambda: at_most_lost(0), lambda: at_most_lost(3), lambda: at_most_lost(60),
    lambda: one_way("first"), lambda: one_way("second"),
    lambda: losses_apart(0), lambda: losses_apart(3), lambda: losses_apart(60),
]


def letters_lost(fates):
    return sum({"b": 0, "f": 1, "s": 1, "n": 2}[fate] for fate in fates)


def stays_silent(fates):
    """Whether one end's letters arrive up to some round and none from then on, and the other's all arrive."""
    return [end for end in "fs" for at in range(len(fates) + 1)
            if fates == "b" * at + end * (len(fates) - at)] != []


def are_apart(fates, rounds):
    losses = [at for at, fate in enumerate(fates) if fate != "b"]
    return all(later - at - 1 >= rounds for at, later in zip(losses, losses[1:]))


class KnownCase(unittest.TestCase):
    def assert_allows(self, rule, expected):
        self.assertEqual([fates for fates in SHORT if expected(fates)],
                         [fates for fates in SHORT if fates in rule])


class KnownTest(KnownCase):
    def test_anything(self):
        self.assert_allows(anything(), lambda fates: True)
        self.assertEqual(((0, 0, 0, 0),), anything().rows)
        self.assertTrue("bfsn" * 30 in anything())

    def test_no_run(self):
        self.assert_allows(no_run(), lambda fates: False)
        self.assertEqual(((), True), (no_run().rows, no_run().empty))

    def test_reliable(self):
        self.assert_allows(reliable(), lambda fates: fates == "b" * len(fates))
        self.assertEqual(((0, N, N, N),), reliable().rows)

    def test_falls_silent(self):
        self.assert_allows(falls_silent(), stays_silent)
        self.assertEqual(((0, 1, 2, N), (N, 1, N, N), (N, N, 2, N)), falls_silent().rows)
        self.assertEqual([True, True, False], [fates in falls_silent() for fates in (
            "b" * 60 + "f" * 60, "b" * 120, "b" * 60 + "f" * 59 + "b")])

    def test_each_call_returns_a_new_rule(self):
        for make in MAKERS:
            one, other = make(), make()
            self.assertIsInstance(one, Rule)
            self.assertIsNot(one, other)
            self.assertTrue(one == other)

    def test_normal_forms(self):
        for make in MAKERS:
            rows = make().rows
            self.assertTrue(different_states(rows))
            self.assertTrue(numbered_as_met(rows))
            self.assertEqual(rows, Rule(rows).rows)


class OneWayTest(KnownCase):
    def test_sentence(self):
        self.assert_allows(one_way("first"), lambda fates: not set(fates) & {"s", "n"})
        self.assert_allows(one_way("second"), lambda fates: not set(fates) & {"f", "n"})

    def test_rows(self):
        self.assertEqual(((0, 0, N, N),), one_way("first").rows)
        self.assertEqual(((0, N, 0, N),), one_way("second").rows)
        self.assertTrue(~one_way("first") == one_way("second"))

    def test_wrong_ends(self):
        for wrong in ("", "third", "First", "firs", "second ", "s"):
            with self.assertRaises(InvalidEnd) as held:
                one_way(wrong)
            self.assertEqual(wrong, held.exception.end)


class AtMostLostTest(KnownCase):
    def test_sentence(self):
        for letters in range(12):
            self.assert_allows(at_most_lost(letters), lambda fates: letters_lost(fates) <= letters)

    def test_no_letter(self):
        self.assertTrue(at_most_lost(0) == reliable())

    def test_rows(self):
        self.assertEqual(((0, 1, 1, N), (1, N, N, N)), at_most_lost(1).rows)
        self.assertEqual(((0, 1, 1, 2), (1, 2, 2, N), (2, N, N, N)), at_most_lost(2).rows)

    def test_sizes(self):
        self.assertEqual(list(range(1, 62)), [at_most_lost(letters).size for letters in range(61)])

    def test_sixty_letters(self):
        rule = at_most_lost(60)
        for fates in ("f" * 60, "n" * 30, "s" * 59, "n" * 29 + "f", "fs" * 30, "nb" * 30, "b" * 60 + "fs" * 30):
            self.assertTrue(fates in rule)
            missing = 60 - letters_lost(fates)
            self.assertFalse(fates + "f" * (missing + 1) in rule)
            self.assertIs(missing == 1, fates + "f" in rule)
            self.assertFalse(fates + "n" in rule)
            self.assertTrue(fates + "b" in rule)
        self.assertFalse("f" * 61 in at_most_lost(60))
        self.assertFalse("f" * 60 in at_most_lost(59))

    def test_wrong_numbers(self):
        for wrong in WRONG_COUNTS:
            with self.assertRaises(InvalidCount) as held:
                at_most_lost(wrong)
            self.assertEqual(wrong, held.exception.amount)


class LossesApartTest(KnownCase):
    def test_sentence(self):
        for rounds in range(7):
            self.assert_allows(losses_apart(rounds), lambda fates: are_apart(fates, rounds))

    def test_no_round(self):
        self.assertTrue(losses_apart(0) == anything())

    def test_rows(self):
        self.assertEqual(((0, 1, 1, 1), (0, N, N, N)), losses_apart(1).rows)
        self.assertEqual(((0, 1, 1, 1), (2, N, N, N), (0, N, N, N)), losses_apart(2).rows)

    def test_sizes(self):
        self.assertEqual(list(range(1, 62)), [losses_apart(rounds).size for rounds in range(61)])

    def test_sixty_rounds(self):
        rule = losses_apart(60)
        for one in "fsn":
            for other in "fsn":
                self.assertTrue(one + "b" * 60 + other in rule)
                self.assertTrue(one + "b" * 118 + other in rule)
                for between in (0, 1, 30, 58, 59):
                    self.assertFalse(one + "b" * between + other in rule)
                self.assertTrue("b" * 59 + one + "b" * 59 in rule)
                self.assertTrue(one + "b" * 59 + other in losses_apart(59))

    def test_wrong_numbers(self):
        for wrong in WRONG_COUNTS:
            with self.assertRaises(InvalidCount) as held:
                losses_apart(wrong)
            self.assertEqual(wrong, held.exception.amount)
