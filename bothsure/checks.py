"""Checks of arguments that several files share."""

from bothsure.errors import InvalidBit, InvalidCount

# The largest number of rounds or letters that may be passed.
MOST_PASSED = 60


def check_bit(bit):
    """Raise InvalidBit for a number that is neither 0 nor 1."""
    if bit not in (0, 1):
        raise InvalidBit(bit)


def check_count(amount, most):
    """Raise InvalidCount for a number that is not from 0 to `most`."""
    if amount < 0 or amount > most:
        raise InvalidCount(amount)
