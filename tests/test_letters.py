"""bothsure/letters.py: points 1, 5, 7, 8, 28 and 29."""

import unittest

from bothsure.errors import InvalidBit, InvalidEnd, Unmatched
from bothsure.letters import End, grow, join_views, rounds_of
from bothsure.runs import Run
from tests.reference import ORDER, runs_by_views, some_views, strings, view_by_letters

BITS = [(0, 0), (0, 1), (1, 0), (1, 1)]
WRONG_ENDS = ["", "third", "First", "firs", "second ", "f", "firstsecond"]
LONG = "bfsnnsfb" * 15
ENDLESS_SILENCE = "sfb" + "n" * 117
# Views that no run shows: letters without the other bit, or fates that do not go with them.
SHOWN_BY_NO_RUN = [(0, None, "b", 2), (1, None, "n", 0), (0, None, "bfsn", 3), (1, None, "s" * 60, 60)]


def parts(run):
    return (run.first, run.second, run.fates)


class RoundsOfTest(unittest.TestCase):
    def test_views_of_runs(self):
        for fates in strings(4) + [LONG, ENDLESS_SILENCE, "n" * 120, "f" * 120]:
            for view in view_by_letters(0, 1, fates):
                self.assertEqual(len(fates), rounds_of(view))

    def test_no_letter(self):
        for silent in (0, 1, 5, 60, 120):
            self.assertEqual(silent, rounds_of((0, None, "", silent)))

    def test_no_letter_but_known_fates(self):
        self.assertEqual([2, 0, 3, 60], [rounds_of(view) for view in SHOWN_BY_NO_RUN])

    def test_letter(self):
        self.assertEqual([1, 3, 4, 5], [rounds_of(view) for view in (
            (0, 0, "", 0), (0, 1, "bs", 0), (1, 0, "", 3), (1, 1, "nn", 2))])

    def test_all_forms(self):
        for own, other, known, silent in some_views(2, 2):
            expected = silent if other is None else len(known) + 1 + silent
            self.assertEqual(expected, rounds_of((own, other, known, silent)))


class JoinViewsTest(unittest.TestCase):
    def assert_unmatched(self, first_view, second_view):
        with self.assertRaises(Unmatched) as held:
            join_views(first_view, second_view)
        self.assertEqual({}, vars(held.exception))

    def test_the_views_of_each_short_run(self):
        for (first_view, second_view), expected in runs_by_views(5).items():
            run = join_views(first_view, second_view)
            self.assertIsInstance(run, Run)
            self.assertEqual(expected, parts(run))

    def test_all_pairs_of_short_views(self):
        views = some_views(2, 2)
        expected = runs_by_views(5)
        matched = 0
        for first_view in views:
            for second_view in views:
                if (first_view, second_view) in expected:
                    run = join_views(first_view, second_view)
                    self.assertEqual(expected[(first_view, second_view)], parts(run))
                    matched += 1
                else:
                    self.assert_unmatched(first_view, second_view)
        self.assertGreater(matched, 100)

    def test_no_letter_at_either_end(self):
        for first, second in BITS:
            for rounds in (0, 1, 7, 60, 120):
                run = join_views((first, None, "", rounds), (second, None, "", rounds))
                self.assertEqual((first, second, "n" * rounds), parts(run))

    def test_different_runs(self):
        runs = list(runs_by_views(2).values())
        pairs = runs_by_views(2)
        for one in runs:
            for other in runs:
                first_view, second_view = view_by_letters(*one)[0], view_by_letters(*other)[1]
                if (first_view, second_view) in pairs:
                    self.assertEqual(pairs[(first_view, second_view)], parts(join_views(first_view, second_view)))
                else:
                    self.assert_unmatched(first_view, second_view)

    def test_different_numbers_of_rounds(self):
        self.assert_unmatched((0, None, "", 1), (1, None, "", 2))
        self.assert_unmatched((0, None, "", 0), (1, None, "", 1))
        self.assert_unmatched((0, 1, "", 0), (1, 0, "b", 0))
        self.assert_unmatched((0, 1, "", 1), (1, 0, "", 0))
        self.assert_unmatched((0, 1, "bs", 0), (1, 0, "b", 0))
        self.assert_unmatched((0, 1, "b" * 119, 0), (1, 0, "b" * 118, 0))
        self.assert_unmatched((0, None, "", 10 ** 59), (1, None, "", 2))

    def test_bits_that_do_not_fit(self):
        join_views((0, 1, "b", 0), (1, 0, "b", 0))
        self.assert_unmatched((0, 0, "b", 0), (1, 0, "b", 0))
        self.assert_unmatched((0, 1, "b", 0), (0, 0, "b", 0))
        self.assert_unmatched((1, 1, "b", 0), (1, 0, "b", 0))
        self.assert_unmatched((0, 1, "b", 0), (1, 1, "b", 0))
        self.assert_unmatched((0, 0, "", 0), (1, None, "", 1))
        self.assert_unmatched((0, None, "", 1), (1, 1, "", 0))

    def test_fates_that_do_not_fit(self):
        self.assert_unmatched((0, 1, "b", 0), (1, 0, "f", 0))
        self.assert_unmatched((0, 1, "bs", 0), (1, 0, "n", 1))
        self.assert_unmatched((0, 1, "bs", 0), (1, 0, "", 2))
        self.assert_unmatched((0, 1, "bs", 0), (1, None, "", 3))
        self.assert_unmatched((0, 1, "", 2), (1, 0, "ff", 0))
        self.assert_unmatched((0, 1, LONG[:118] + "b", 0), (1, 0, LONG[:118] + "s", 0))

    def test_views_that_no_run_shows(self):
        for view in SHOWN_BY_NO_RUN:
            rounds = rounds_of(view)
            for other in [(1, None, "", rounds), view, (1, None, "f", rounds)]:
                self.assert_unmatched(view, other)
                self.assert_unmatched(other, view)
        self.assert_unmatched((0, None, "b", 2), (1, 0, "b", 0))
        self.assert_unmatched((0, None, "b", 2), (1, 0, "", 1))
        self.assert_unmatched((1, 0, "f", 0), (0, None, "f", 2))

    def test_the_ends_are_not_exchanged(self):
        self.assertEqual("f", join_views((0, 1, "", 0), (1, None, "", 1)).fates)
        self.assertEqual("s", join_views((0, None, "", 1), (1, 0, "", 0)).fates)
        self.assertEqual("ffs", join_views((0, 1, "f", 1), (1, 0, "ff", 0)).fates)
        self.assert_unmatched((1, 0, "ff", 0), (0, 1, "f", 1))

    def test_long_runs(self):
        for fates in (LONG, ENDLESS_SILENCE, "b" * 120, "f" * 120, "s" * 120, "n" * 119 + "f", "fs" * 60):
            for first, second in BITS:
                run = join_views(*view_by_letters(first, second, fates))
                self.assertEqual((first, second, fates), parts(run))


class GrowTest(unittest.TestCase):
    def assert_unmatched(self, end, view, letter):
        with self.assertRaises(Unmatched):
            grow(end, view, letter)

    def test_each_fate_at_each_end(self):
        for first, second in BITS:
            for fates in strings(4):
                one, other = view_by_letters(first, second, fates)
                for fate in ORDER:
                    letters = (other if fate in "bf" else None, one if fate in "bs" else None)
                    expected = view_by_letters(first, second, fates + fate)
                    self.assertEqual(expected[0], grow("first", one, letters[0]))
                    self.assertEqual(expected[1], grow("second", other, letters[1]))

    def test_all_pairs_of_short_views(self):
        views = some_views(1, 2)
        pairs = runs_by_views(4)
        for view in views:
            for letter in views:
                for at, end in enumerate(("first", "second")):
                    pair = (view, letter) if at == 0 else (letter, view)
                    if pair in pairs:
                        expected = view_by_letters(*pairs[pair][:2], pairs[pair][2] + "b")[at]
                        self.assertEqual(expected, grow(end, view, letter))
                    else:
                        self.assert_unmatched(end, view, letter)

    def test_by_hand(self):
        self.assertEqual((1, 0, "nn", 0), grow("second", (1, None, "", 2), (0, None, "", 2)))
        self.assertEqual((0, 1, "", 0), grow("first", (0, None, "", 0), (1, None, "", 0)))
        self.assertEqual((0, 1, "f", 0), grow("first", (0, 1, "", 0), (1, None, "", 1)))
        self.assertEqual((0, 1, "sff", 0), grow("first", (0, 1, "sf", 0), (1, 0, "", 2)))
        self.assertEqual((0, 1, "s", 0), grow("second", (0, 1, "", 0), (1, None, "", 1)))

    def test_lost_letter(self):
        for own, other, known, silent in some_views(2, 2) + SHOWN_BY_NO_RUN:
            for end in ("first", "second"):
                view = (own, other, known, silent)
                self.assertEqual((own, other, known, silent + 1), grow(end, view, None))
                self.assertEqual((own, other, known, silent), view)

    def test_letter_that_does_not_fit(self):
        self.assert_unmatched("first", (0, None, "", 0), (1, None, "", 1))
        self.assert_unmatched("first", (0, None, "", 2), (1, 0, "", 0))
        self.assert_unmatched("second", (1, 0, "b", 0), (0, 0, "b", 0))
        self.assert_unmatched("second", (1, 0, "b", 0), (0, 1, "s", 0))
        self.assert_unmatched("second", (0, None, "b", 2), (1, None, "", 2))
        self.assert_unmatched("first", (0, None, "", 2), (1, None, "b", 2))

    def test_views_are_tuples(self):
        for letter in (None, (1, None, "", 0)):
            self.assertIs(tuple, type(grow("first", (0, None, "", 0), letter)))

    def test_long_views(self):
        for fates in (LONG[:119], ENDLESS_SILENCE[:119], "f" * 119, LONG):
            one, other = view_by_letters(1, 0, fates)
            self.assertEqual((1, 0, fates, 0), grow("first", one, other))
            self.assertEqual((0, 1, fates, 0), grow("second", other, one))
            self.assertEqual(one[:3] + (one[3] + 1,), grow("first", one, None))

    def test_wrong_end(self):
        for wrong in WRONG_ENDS:
            for letter in (None, (1, None, "", 0), (1, None, "", 5)):
                with self.assertRaises(InvalidEnd) as held:
                    grow(wrong, (0, None, "", 0), letter)
                self.assertEqual(wrong, held.exception.end)


class EndTest(unittest.TestCase):
    def play(self, first, second, fates):
        """Play a run, and return the views of both ends behind each round."""
        ends = (End("first", first), End("second", second))
        views = [(ends[0].view, ends[1].view)]
        for fate in fates:
            before = views[-1]
            told = [ends[0].receive(before[1] if fate in "bf" else None),
                    ends[1].receive(before[0] if fate in "bs" else None)]
            self.assertEqual([None, None], told)
            views.append((ends[0].view, ends[1].view))
        self.assertEqual(["first", "second"], [end.name for end in ends])
        return views

    def test_new_ends(self):
        for name in ("first", "second"):
            for bit in (0, 1):
                end = End(name, bit)
                self.assertEqual((name, (bit, None, "", 0)), (end.name, end.view))
                self.assertIs(tuple, type(end.view))

    def test_whole_runs(self):
        for first, second in BITS:
            for fates in strings(4) + [LONG, ENDLESS_SILENCE]:
                views = self.play(first, second, fates)
                expected = [tuple(view_by_letters(first, second, fates[:at])) for at in range(len(fates) + 1)]
                self.assertEqual(expected, views)
                run = Run(first, second, fates)
                self.assertEqual((run.seen("first"), run.seen("second")), views[-1])

    def test_letter_that_does_not_fit(self):
        for name, known in (("first", "sf"), ("second", "fs")):
            end = End(name, 0)
            for letter in (None, (1, 0, "", 0), (1, 0, "", 1)):
                end.receive(letter)
            self.assertEqual((0, 1, known, 0), end.view)
            for wrong in [(1, None, "", 0), (1, 0, "", 1), (1, 0, "", 3), (0, 0, "", 2), (1, 1, "", 2),
                          (1, 0, "bb", 0), (1, None, "", 3), (1, None, known, 3)]:
                with self.assertRaises(Unmatched):
                    end.receive(wrong)
                self.assertEqual((name, (0, 1, known, 0)), (end.name, end.view))
            end.receive(None)
            self.assertEqual((0, 1, known, 1), end.view)
            with self.assertRaises(Unmatched):
                end.receive((1, 0, "", 2))
            end.receive((1, 0, "", 3))
            self.assertEqual((0, 1, known + {"first": "fn", "second": "sn"}[name], 0), end.view)

    def test_letter_that_does_not_fit_at_first(self):
        end = End("first", 1)
        with self.assertRaises(Unmatched):
            end.receive((0, None, "", 1))
        self.assertEqual((1, None, "", 0), end.view)
        end.receive(None)
        self.assertEqual((1, None, "", 1), end.view)
        end.receive((0, None, "", 1))
        self.assertEqual((1, 0, "n", 0), end.view)

    def test_ends_do_not_share_anything(self):
        one, other = End("first", 0), End("first", 0)
        one.receive(None)
        self.assertEqual([(0, None, "", 1), (0, None, "", 0)], [one.view, other.view])

    def test_a_view_that_was_taken_stays(self):
        end = End("second", 1)
        view = end.view
        end.receive((0, None, "", 0))
        self.assertEqual((1, None, "", 0), view)
        self.assertEqual((1, 0, "", 0), end.view)

    def test_wrong_names_and_bits(self):
        for wrong in WRONG_ENDS:
            for bit in (0, 1, 2):
                with self.assertRaises(InvalidEnd) as held:
                    End(wrong, bit)
                self.assertEqual(wrong, held.exception.end)
        for wrong in (2, -1, 10 ** 59, -10 ** 59):
            for name in ("first", "second"):
                with self.assertRaises(InvalidBit) as held:
                    End(name, wrong)
                self.assertEqual(wrong, held.exception.bit)
