"""bothsure/runs.py: points 4, 5, 6, 28 and 29."""

import unittest

from bothsure.errors import InvalidBit, InvalidCount, InvalidEnd, InvalidFate
from bothsure.fates import swap_fates
from bothsure.runs import Run, alike
from tests.reference import strings, view_by_letters

BITS = [(0, 0), (0, 1), (1, 0), (1, 1)]
LONG = "bfsnnsfb" * 15


def parts(run):
    return (run.first, run.second, run.fates)


class RunTest(unittest.TestCase):
    def test_attributes(self):
        for first, second in BITS:
            for fates in ("", "n", "bfsn", LONG):
                run = Run(first, second, fates)
                self.assertEqual((first, second, fates), parts(run))
                self.assertEqual(len(fates), run.rounds)

    def test_wrong_bits(self):
        for wrong in (2, -1, 10, 10 ** 59, -10 ** 59):
            for make in (lambda bit: Run(bit, 0, ""), lambda bit: Run(1, bit, "bf")):
                with self.assertRaises(InvalidBit) as held:
                    make(wrong)
                self.assertEqual(wrong, held.exception.bit)

    def test_order_of_the_checks(self):
        with self.assertRaises(InvalidBit) as held:
            Run(2, 3, "x")
        self.assertEqual(2, held.exception.bit)
        with self.assertRaises(InvalidBit) as held:
            Run(0, 3, "x")
        self.assertEqual(3, held.exception.bit)
        with self.assertRaises(InvalidFate) as held:
            Run(0, 1, "bfxx")
        self.assertEqual(2, held.exception.at)

    def test_items(self):
        run = Run(0, 1, "bfsn")
        self.assertEqual(["b", "f", "s", "n"], [run[0], run[1], run[2], run[3]])
        self.assertEqual("b", Run(0, 0, LONG)[119])

    def test_slices(self):
        for fates in ("", "s", "bfsnb", "nnfsbbsf"):
            run = Run(1, 0, fates)
            limits = range(-len(fates) - 2, len(fates) + 3)
            for start in limits:
                self.assertEqual(fates[start:], run[start:])
                self.assertEqual(fates[:start], run[:start])
                for stop in limits:
                    self.assertEqual(fates[start:stop], run[start:stop])
        self.assertEqual("fs", Run(0, 0, "bfsn")[1:-1])
        self.assertEqual("sn", Run(0, 0, "bfsn")[-2:])
        self.assertEqual("", Run(0, 0, "bfsn")[3:1])
        self.assertIs(str, type(Run(0, 0, "bfsn")[1:2]))

    def test_iteration(self):
        run = Run(0, 1, "bfsn")
        self.assertEqual(["b", "f", "s", "n"], list(run))
        self.assertEqual(["b", "f", "s", "n"], [fate for fate in run])
        self.assertEqual([], list(Run(0, 1, "")))
        self.assertEqual(list(LONG), list(Run(0, 1, LONG)))

    def test_equality(self):
        runs = [(first, second, fates) for first, second in BITS for fates in strings(2)]
        for one in runs:
            for other in runs:
                self.assertIs(one == other, Run(*one) == Run(*other))

    def test_text(self):
        self.assertEqual("0 1 bsf", str(Run(0, 1, "bsf")))
        self.assertEqual("1 0 -", str(Run(1, 0, "")))
        self.assertEqual("1 1 " + LONG, str(Run(1, 1, LONG)))
        self.assertEqual("0 0 n", str(Run(0, 0, "n")))


class SeenTest(unittest.TestCase):
    def test_views_as_the_letters_make_them(self):
        for first, second in BITS:
            for fates in strings(4):
                run = Run(first, second, fates)
                one, other = view_by_letters(first, second, fates)
                self.assertEqual(one, run.seen("first"))
                self.assertEqual(other, run.seen("second"))

    def test_no_round(self):
        self.assertEqual((1, None, "", 0), Run(1, 0, "").seen("first"))
        self.assertEqual((0, None, "", 0), Run(1, 0, "").seen("second"))

    def test_known_counts_all_earlier_rounds(self):
        self.assertEqual((0, 1, "nss", 2), Run(0, 1, "nssfns").seen("first"))
        self.assertEqual((1, 0, "nssfn", 0), Run(0, 1, "nssfns").seen("second"))

    def test_no_letter(self):
        self.assertEqual((0, None, "", 3), Run(0, 1, "nsn").seen("first"))
        self.assertEqual((1, None, "", 3), Run(0, 1, "nfn").seen("second"))

    def test_views_are_tuples(self):
        for end in ("first", "second"):
            self.assertIs(tuple, type(Run(0, 1, "b").seen(end)))
            self.assertIs(tuple, type(Run(0, 1, "n").seen(end)))

    def test_long_runs(self):
        for fates in (LONG, "b" + "s" * 119, "f" * 120, "n" * 61, "n" * 119 + "b"):
            views = view_by_letters(1, 0, fates)
            self.assertEqual(views, [Run(1, 0, fates).seen("first"), Run(1, 0, fates).seen("second")])

    def test_wrong_end(self):
        for fates in ("", "bf"):
            for wrong in ("", "third", "FIRST", "s"):
                with self.assertRaises(InvalidEnd) as held:
                    Run(0, 1, fates).seen(wrong)
                self.assertEqual(wrong, held.exception.end)


class CutTest(unittest.TestCase):
    def test_every_length(self):
        for fates in ("", "n", "bfsn", LONG):
            run = Run(1, 0, fates)
            for rounds in range(len(fates) + 1):
                self.assertEqual((1, 0, fates[:rounds]), parts(run.cut(rounds)))
            self.assertEqual((1, 0, fates), parts(run))

    def test_more_than_sixty(self):
        self.assertEqual("b" * 61, Run(0, 1, "b" * 61).cut(61).fates)
        self.assertEqual("b" * 60, Run(0, 1, "b" * 61).cut(60).fates)
        self.assertEqual("n" * 120, Run(0, 1, "n" * 120).cut(120).fates)

    def test_out_of_range(self):
        for fates in ("", "b", "bfsn", "s" * 61):
            run = Run(0, 1, fates)
            for wrong in (-1, len(fates) + 1, 10 ** 59, -10 ** 59):
                with self.assertRaises(InvalidCount) as held:
                    run.cut(wrong)
                self.assertEqual(wrong, held.exception.amount)
                self.assertEqual((0, 1, fates), parts(run))


class SwappedTest(unittest.TestCase):
    def test_bits_and_fates(self):
        self.assertEqual((1, 0, "bsfn"), parts(Run(0, 1, "bfsn").swapped()))
        self.assertEqual((0, 0, ""), parts(Run(0, 0, "").swapped()))

    def test_views_change_places(self):
        for first, second in BITS:
            for fates in strings(4):
                run = Run(first, second, fates)
                swapped = run.swapped()
                for end, other_end in (("first", "second"), ("second", "first")):
                    own, other, known, silent = run.seen(end)
                    self.assertEqual((own, other, swap_fates(known), silent), swapped.seen(other_end))
                self.assertEqual((first, second, fates), parts(run))
                self.assertEqual((first, second, fates), parts(swapped.swapped()))


class AlikeTest(unittest.TestCase):
    def test_all_short_runs(self):
        runs = [(first, second, fates) for first, second in BITS for fates in strings(2)]
        for one in runs:
            for other in runs:
                views = list(zip(view_by_letters(*one), view_by_letters(*other)))
                for end, pair in zip(("first", "second"), views):
                    expected = pair[0] == pair[1] and len(one[2]) == len(other[2])
                    self.assertIs(expected, alike(Run(*one), Run(*other), to=end))

    def test_different_numbers_of_rounds(self):
        for end in ("first", "second"):
            for fates in ("n", "b", "bfsn", "f", "s"):
                self.assertFalse(alike(Run(0, 1, fates), Run(0, 1, fates + "n"), to=end))
                self.assertFalse(alike(Run(0, 1, ""), Run(0, 1, fates), to=end))

    def test_to_one_end_only(self):
        one, other = Run(0, 1, "bs"), Run(0, 1, "bb")
        self.assertFalse(alike(one, other, to="first"))
        self.assertTrue(alike(one, other, to="second"))
        self.assertTrue(alike(Run(0, 0, "s"), Run(0, 1, "s"), to="first"))
        self.assertFalse(alike(Run(0, 0, "s"), Run(0, 1, "s"), to="second"))

    def test_long_runs(self):
        one, other = Run(1, 1, LONG + "n"), Run(1, 1, LONG + "s")
        self.assertTrue(alike(one, other, to="first"))
        self.assertFalse(alike(one, other, to="second"))

    def test_wrong_end(self):
        for one, other in ((Run(0, 0, "b"), Run(0, 0, "b")), (Run(0, 0, ""), Run(1, 0, "b"))):
            with self.assertRaises(InvalidEnd) as held:
                alike(one, other, to="other")
            self.assertEqual("other", held.exception.end)

    def test_end_by_keyword_only(self):
        with self.assertRaises(TypeError):
            alike(Run(0, 0, ""), Run(0, 0, ""), "first")
