"""All examples of the document."""

import unittest

from bothsure.chains import Chain
from bothsure.closing import closed_states, passable, rounds_needed
from bothsure.deciding import Decider
from bothsure.errors import InvalidNotation
from bothsure.fates import arrives, swap_fates
from bothsure.forbidding import fewest_to_forbid, forbid
from bothsure.known import anything, at_most_lost, falls_silent, reliable
from bothsure.letters import grow, join_views
from bothsure.notation import format_rule, parse_rule
from bothsure.rules import Rule
from bothsure.runs import Run, alike
from bothsure.words import apart, count, words


class ExamplesTest(unittest.TestCase):
    def test_fates(self):
        self.assertIs(True, arrives("f", at="first"))
        self.assertEqual("bssfn", swap_fates("bffsn"))

    def test_runs(self):
        self.assertEqual((0, 1, "bs", 0), Run(0, 1, "bsf").seen("first"))
        self.assertEqual((1, 0, "b", 1), Run(0, 1, "bsf").seen("second"))
        self.assertIs(True, alike(Run(0, 1, "bsf"), Run(0, 1, "bsb"), to="first"))

    def test_rules(self):
        table = [[2, None, 1, None], [None, None, None, None], [2, None, None, 1]]
        self.assertEqual(((0, None, None, None),), Rule(table).rows)
        self.assertIs(True, "bs" in Rule([[0, 0, 1, None], [1, None, None, None]]))
        self.assertEqual(((1, None, None, None), (1, 1, 1, 1)), reliable().then(anything(), rounds=1).rows)
        first_silent = reliable() >> Rule([[None, 0, None, None]])
        self.assertIs(True, (first_silent | ~first_silent) == falls_silent())

    def test_letters(self):
        self.assertEqual((1, 0, "nn", 0), grow("second", (1, None, "", 2), (0, None, "", 2)))
        self.assertEqual("0 1 bsf", str(join_views((0, 1, "bs", 0), (1, 0, "b", 1))))

    def test_words(self):
        self.assertEqual(["bb", "bf", "bs", "ff", "ss"], list(words(falls_silent(), rounds=2)))
        self.assertEqual([7, "f"], [count(at_most_lost(1), rounds=3), apart(at_most_lost(1), at_most_lost(0))])

    def test_closing(self):
        self.assertEqual(2, rounds_needed(at_most_lost(1)))
        self.assertEqual([[0, 1], [0]], [passable(at_most_lost(2), rounds=1), passable(at_most_lost(2), rounds=2)])
        self.assertEqual([1], closed_states(Rule([[1, 2, 1, None], [0, 2, None, 1], [2, None, None, None]])))
        one = Rule([[1, 1, None, None], [1, 1, 1, 1]])
        other = Rule([[1, None, 1, None], [1, 1, 1, 1]])
        self.assertEqual([1, 1, None], [rounds_needed(one), rounds_needed(other), rounds_needed(one | other)])

    def test_deciding(self):
        decider = Decider(falls_silent())
        self.assertEqual([1, 0], [decider("first", (0, 1, "f", 0)), decider("second", (1, 0, "", 1))])

    def test_chains(self):
        self.assertEqual(5, Chain(at_most_lost(1), rounds=1).length)
        self.assertEqual(1, Chain(anything(), rounds=60)[2].first)

    def test_forbidding(self):
        self.assertEqual([(0, "b"), (0, "n")], fewest_to_forbid(anything()))
        self.assertEqual(((None, 0, 0, None),), forbid(anything(), [(0, "b"), (0, "n")]).rows)

    def test_notation(self):
        self.assertEqual("0: b0 f1 s2\n1: f1\n2: s2", format_rule(falls_silent()))
        with self.assertRaises(InvalidNotation) as held:
            parse_rule("0: b1\n1: b01")
        self.assertEqual(1, held.exception.line)
