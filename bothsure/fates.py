"""Fates: which of the two letters of a round arrive."""

from bothsure.errors import InvalidEnd, InvalidFate

FATES = "bfsn"
ENDS = ("first", "second")

# The fates under which the letter to an end arrives.
ARRIVING = {"first": "bf", "second": "bs"}

SWAPPED = {"b": "b", "f": "s", "s": "f", "n": "n"}


def check_fates(fates):
    """Raise InvalidFate for the first character that is not a fate."""
    for at, fate in enumerate(fates):
        if fate not in FATES:
            raise InvalidFate(at)


def check_end(end):
    """Raise InvalidEnd for a name that is not the name of an end."""
    if end not in ENDS:
        raise InvalidEnd(end)


def arrives(fate, *, at):
    """Tell whether the letter that is sent to the end `at` arrives under the fate."""
    check_fates(fate)
    check_end(at)
    return fate in ARRIVING[at]


def swap_fates(fates):
    """Return the string of fates with `f` and `s` exchanged."""
    check_fates(fates)
    return "".join([SWAPPED[fate] for fate in fates])
