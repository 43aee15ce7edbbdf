"""The examples of the document that use only the modules that have landed."""

import unittest

from bothsure.closing import closed_states, passable, rounds_needed
from bothsure.fates import arrives, swap_fates
from bothsure.known import anything, at_most_lost, falls_silent, reliable
from bothsure.letters import grow, join_views
from bothsure.rules import Rule
from bothsure.runs import Run, alike
from bothsure.words import apart, count, words


class ExamplesTest(unittest.TestCase):
    def test_fates(self):
        self.assertIs(True, arrives("f", at="first"))
        self.assertEqual("bssfn", swap_fates("bffsn"))

    def test_runs(self):
        self.assertEqual((0, 1, "bs", 0), Run(0, 1, "bsf").seen("first"))
        self.assertEqual((1, 0, "b", 1), Run(0, 1, "bsf").seen("second"))
        self.assertIs(True, alike(Run(0, 1, "bsf"), Run(0, 1, "bsb"), to="first"))

    def test_rules(self):
        table = [[2, None, 1, None], [None, None, None, None], [2, None, None, 1]]
        self.assertEqual(((0, None, None, None),), Rule(table).rows)
        self.assertIs(True, "bs" in Rule([[0, 0, 1, None], [1, None, None, None]]))
        self.assertEqual(((1, None, None, None), (1, 1, 1, 1)), reliable().then(anything(), rounds=1).rows)
        first_silent = reliable() >> Rule([[None, 0, None, None]])
        self.assertIs(True, (first_silent | ~first_silent) == falls_silent())

    def test_letters(self):
        self.assertEqual((1, 0, "nn", 0), grow("second", (1, None, "", 2), (0, None, "", 2)))
        self.assertEqual("0 1 bsf", str(join_views((0, 1, "bs", 0), (1, 0, "b", 1))))

    def test_words(self):
        self.assertEqual(["bb", "bf", "bs", "ff", "ss"], list(words(falls_silent(), rounds=2)))
        self.assertEqual([7, "f"], [count(at_most_lost(1), rounds=3), apart(at_most_lost(1), at_most_lost(0))])

    def test_closing(self):
        self.assertEqual(2, rounds_needed(at_most_lost(1)))
        self.assertEqual([[0, 1], [0]], [passable(at_most_lost(2), rounds=1), passable(at_most_lost(2), rounds=2)])
        self.assertEqual([1], closed_states(Rule([[1, 2, 1, None], [0, 2, None, 1], [2, None, None, None]])))
        one = Rule([[1, 1, None, None], [1, 1, 1, 1]])
        other = Rule([[1, None, 1, None], [1, 1, 1, 1]])
        self.assertEqual([1, 1, None], [rounds_needed(one), rounds_needed(other), rounds_needed(one | other)])
