"""The errors of the program, one class for each kind of failure."""


class SureError(ValueError):
    """The base class of all errors that the program raises."""


class InvalidFate(SureError):
    """A character that is not a fate; `at` is its index."""

    def __init__(self, at):
        super().__init__(f"no fate at index {at}")
        self.at = at


class InvalidEnd(SureError):
    """A name that is not the name of an end."""

    def __init__(self, end):
        super().__init__(f"not an end: {end}")
        self.end = end


class InvalidBit(SureError):
    """A bit that is neither 0 nor 1."""

    def __init__(self, bit):
        super().__init__(f"not a bit: {bit}")
        self.bit = bit


class InvalidCount(SureError):
    """A number of rounds or letters that is out of range."""

    def __init__(self, amount):
        super().__init__(f"out of range: {amount}")
        self.amount = amount


class InvalidRule(SureError):
    """A table that is not a rule; `state` is the number of its first wrong row."""

    def __init__(self, state):
        super().__init__(f"not a row of a rule: row {state}")
        self.state = state


class InvalidState(SureError):
    """A number that is not the number of a state of the rule."""

    def __init__(self, state):
        super().__init__(f"not a state of the rule: {state}")
        self.state = state


class InvalidNotation(SureError):
    """A text that is not a rule; `line` is the index of its first wrong line."""

    def __init__(self, line):
        super().__init__(f"not a line of a rule: line {line}")
        self.line = line


class OutOfChain(SureError):
    """A position at which a chain has no run."""

    def __init__(self, position):
        super().__init__(f"no run at position {position}")
        self.position = position


class NeverSeen(SureError):
    """A view that no allowed run shows to the end."""

    def __init__(self, wrong_view):
        super().__init__(f"never seen: {wrong_view}")
        self.wrong_view = wrong_view


class Unmatched(SureError):
    """Two views that no run shows to the two ends."""


class CannotDecide(SureError):
    """The ends cannot be sure in that number of rounds."""


class NoChain(SureError):
    """There is no chain for that number of rounds."""


class NotClosed(SureError):
    """A set of states that is not closed, or that lacks state 0."""
