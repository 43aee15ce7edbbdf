"""A test case that watches how long the program takes."""

import time
import unittest


class TimedCase(unittest.TestCase):
    def assert_quick(self, call, seconds=10):
        """Return what the call returns; far more steps than rounds and states ask for would take too long."""
        start = time.perf_counter()
        found = call()
        self.assertLess(time.perf_counter() - start, seconds)
        return found
