"""The examples of the document that use only the modules that have landed."""

import unittest

from bothsure.fates import arrives, swap_fates
from bothsure.rules import Rule
from bothsure.runs import Run, alike


class ExamplesTest(unittest.TestCase):
    def test_fates(self):
        self.assertIs(True, arrives("f", at="first"))
        self.assertEqual("bssfn", swap_fates("bffsn"))

    def test_runs(self):
        self.assertEqual((0, 1, "bs", 0), Run(0, 1, "bsf").seen("first"))
        self.assertEqual((1, 0, "b", 1), Run(0, 1, "bsf").seen("second"))
        self.assertIs(True, alike(Run(0, 1, "bsf"), Run(0, 1, "bsb"), to="first"))

    def test_rules(self):
        table = [[2, None, 1, None], [None, None, None, None], [2, None, None, 1]]
        self.assertEqual(((0, None, None, None),), Rule(table).rows)
        self.assertIs(True, "bs" in Rule([[0, 0, 1, None], [1, None, None, None]]))
