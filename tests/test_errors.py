"""bothsure/errors.py."""

import unittest

from bothsure import errors
from bothsure.chains import Chain, spin
from bothsure.deciding import Decider, shown
from bothsure.errors import (
    CannotDecide, InvalidBit, InvalidCount, InvalidEnd, InvalidFate, InvalidNotation, InvalidRule,
    InvalidState, NeverSeen, NoChain, NotClosed, OutOfChain, SureError, Unmatched,
)
from bothsure.fates import arrives, swap_fates
from bothsure.forbidding import forbid
from bothsure.known import anything, at_most_lost, no_run, reliable
from bothsure.letters import End, join_views
from bothsure.notation import parse_rule
from bothsure.rules import Rule
from bothsure.runs import Run, alike

WITH_ATTRIBUTE = [
    (InvalidFate, "at", 3),
    (InvalidEnd, "end", "third"),
    (InvalidBit, "bit", 2),
    (InvalidCount, "amount", -1),
    (InvalidRule, "state", 7),
    (InvalidState, "state", -10 ** 59),
    (InvalidNotation, "line", 0),
    (OutOfChain, "position", 10 ** 59),
    (NeverSeen, "wrong_view", (0, None, "b", 2)),
]
WITHOUT_ATTRIBUTE = [Unmatched, CannotDecide, NoChain, NotClosed]
CLASSES = [row[0] for row in WITH_ATTRIBUTE] + WITHOUT_ATTRIBUTE

RAISING = [
    (InvalidFate, lambda: swap_fates("bx")),
    (InvalidEnd, lambda: arrives("b", at="")),
    (InvalidBit, lambda: Run(2, 0, "")),
    (InvalidCount, lambda: Run(0, 0, "b").cut(2)),
    (InvalidRule, lambda: Rule([[]])),
    (InvalidState, lambda: Rule([]).allowed_at(0)),
    (InvalidEnd, lambda: alike(Run(0, 0, ""), Run(0, 0, ""), to="both")),
    (InvalidCount, lambda: at_most_lost(61)),
    (InvalidBit, lambda: End("first", 2)),
    (Unmatched, lambda: join_views((0, None, "", 0), (0, None, "", 1))),
    (InvalidEnd, lambda: shown(no_run(), "third", (0, None, "", 0))),
    (InvalidCount, lambda: Decider(anything(), rounds=61)),
    (CannotDecide, lambda: Decider(anything())),
    (InvalidEnd, lambda: Decider(reliable())("third", (0, 1, "b", 0))),
    (NeverSeen, lambda: Decider(reliable())("first", (0, 1, "b", 0))),
    (InvalidCount, lambda: Chain(reliable(), rounds=61)),
    (NoChain, lambda: Chain(reliable(), rounds=1)),
    (OutOfChain, lambda: Chain(anything(), rounds=1)[3]),
    (InvalidState, lambda: list(spin(anything(), [1], rounds=61))),
    (InvalidCount, lambda: list(spin(anything(), [], rounds=61))),
    (NotClosed, lambda: list(spin(anything(), [], rounds=60))),
    (InvalidState, lambda: forbid(anything(), [(1, "x")])),
    (InvalidFate, lambda: forbid(anything(), [(0, "x")])),
    (InvalidNotation, lambda: parse_rule("0: b1\n")),
    (InvalidRule, lambda: parse_rule("0: b1")),
]


class ErrorsTest(unittest.TestCase):
    def test_each_class_keeps_its_argument(self):
        for error, name, value in WITH_ATTRIBUTE:
            with self.subTest(error=error.__name__):
                made = error(value)
                self.assertIs(getattr(made, name), value)
                self.assertEqual([name], list(vars(made)))

    def test_attribute_of_every_kind_of_value_is_kept(self):
        for error, name, _ in WITH_ATTRIBUTE:
            for value in (0, 10 ** 59, "", "{}", (1, 0, "bf", 0), None, ["b"]):
                self.assertIs(getattr(error(value), name), value)

    def test_classes_without_attributes(self):
        for error in WITHOUT_ATTRIBUTE:
            self.assertEqual({}, vars(error()))

    def test_all_thirteen_are_direct_subclasses(self):
        self.assertEqual(13, len(CLASSES))
        for error in CLASSES:
            self.assertEqual((SureError,), error.__bases__)
        self.assertEqual((ValueError,), SureError.__bases__)

    def test_no_other_error_class(self):
        found = {value for value in vars(errors).values() if isinstance(value, type)}
        self.assertEqual(set(CLASSES) | {SureError}, found)

    def test_none_is_a_subclass_of_another(self):
        for one in CLASSES:
            for other in CLASSES:
                self.assertEqual(one is other, issubclass(one, other))

    def test_each_is_caught_by_its_name_as_sure_error_and_as_value_error(self):
        for error, name, value in WITH_ATTRIBUTE:
            for caught in (error, SureError, ValueError):
                with self.assertRaises(caught) as held:
                    raise error(value)
                self.assertIs(getattr(held.exception, name), value)
        for error in WITHOUT_ATTRIBUTE:
            for caught in (error, SureError, ValueError):
                with self.assertRaises(caught):
                    raise error()

    def test_the_program_raises_them(self):
        for error, call in RAISING:
            for caught in (error, SureError, ValueError):
                with self.assertRaises(caught) as held:
                    call()
                self.assertIs(error, held.exception.__class__)

    def test_each_has_a_text(self):
        for error, _, value in WITH_ATTRIBUTE:
            self.assertIsInstance(str(error(value)), str)
        for error in WITHOUT_ATTRIBUTE:
            self.assertIsInstance(str(error()), str)
