"""bothsure/fates.py: points 2, 3 and 28."""

import unittest

from bothsure.errors import InvalidEnd, InvalidFate
from bothsure.fates import ENDS, FATES, arrives, swap_fates
from bothsure.rules import Rule
from bothsure.runs import Run
from tests.reference import strings

WRONG = ["x", "B", "F", "S", "N", " ", "-", "\n", "0", "\u00df", "\u017f"]


class FatesTest(unittest.TestCase):
    def test_names(self):
        self.assertEqual("bfsn", FATES)
        self.assertEqual(("first", "second"), ENDS)
        self.assertIs(tuple, type(ENDS))

    def test_arrives_at_first(self):
        self.assertEqual([True, True, False, False], [arrives(fate, at="first") for fate in "bfsn"])

    def test_arrives_at_second(self):
        self.assertEqual([True, False, True, False], [arrives(fate, at="second") for fate in "bfsn"])

    def test_arrives_returns_true_or_false(self):
        for fate in "bfsn":
            for end in ("first", "second"):
                self.assertIs(bool, type(arrives(fate, at=end)))

    def test_arrives_refuses_other_fates_and_ends(self):
        for wrong in WRONG:
            with self.assertRaises(InvalidFate) as held:
                arrives(wrong, at="first")
            self.assertEqual(0, held.exception.at)
        for wrong in ("", "third", "First", "firs", "first ", "f", "firstsecond"):
            with self.assertRaises(InvalidEnd) as held:
                arrives("n", at=wrong)
            self.assertEqual(wrong, held.exception.end)

    def test_arrives_checks_the_fate_first(self):
        with self.assertRaises(InvalidFate):
            arrives("x", at="third")

    def test_arrives_takes_the_end_by_keyword_only(self):
        with self.assertRaises(TypeError):
            arrives("b", "first")

    def test_swap_fates(self):
        self.assertEqual("", swap_fates(""))
        self.assertEqual("bsfn", swap_fates("bfsn"))
        self.assertEqual("nnssffbb", swap_fates("nnffssbb"))
        self.assertEqual("sfbn" * 30, swap_fates("fsbn" * 30))

    def test_swapping_means_that_the_ends_change_places(self):
        for fates in strings(4):
            swapped = swap_fates(fates)
            self.assertEqual(fates, swap_fates(swapped))
            for fate, other in zip(fates, swapped):
                self.assertEqual(arrives(fate, at="first"), arrives(other, at="second"))
                self.assertEqual(arrives(fate, at="second"), arrives(other, at="first"))


class FirstWrongCharacterTest(unittest.TestCase):
    """Everything that takes a string of fates names the first wrong character."""

    RULE = Rule([[None, None, None, 0]])
    READERS = [
        swap_fates,
        lambda fates: Run(0, 1, fates),
        RULE.after,
        lambda fates: fates in FirstWrongCharacterTest.RULE,
        Rule([]).after,
        lambda fates: fates in Rule([]),
    ]

    def assert_refused(self, fates, at):
        for reader in self.READERS:
            with self.assertRaises(InvalidFate) as held:
                reader(fates)
            self.assertEqual(at, held.exception.at)

    def test_each_place(self):
        for at in range(5):
            for wrong in WRONG:
                self.assert_refused("n" * at + wrong + "n" * (4 - at), at)

    def test_the_first_of_several(self):
        self.assert_refused("nxny", 1)
        self.assert_refused("xx", 0)
        self.assert_refused("bfsn" * 29 + "bfsX", 119)

    def test_behind_a_fate_that_is_not_allowed(self):
        self.assert_refused("bx", 1)
        self.assert_refused("nnfbbx", 5)

    def test_single_fate(self):
        for wrong in WRONG:
            with self.assertRaises(InvalidFate) as held:
                self.RULE.step(0, wrong)
            self.assertEqual(0, held.exception.at)

    def test_empty_string_is_a_string_of_fates(self):
        for reader in self.READERS:
            reader("")
