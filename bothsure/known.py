"""Rules of loss that are used often."""

from bothsure.checks import MOST_PASSED, check_count
from bothsure.fates import check_end
from bothsure.rules import Rule

# How many letters each fate loses, in the order of FATES.
LETTERS_LOST = (0, 1, 1, 2)


def anything():
    """Return the rule that allows every endless sequence."""
    return Rule([[0, 0, 0, 0]])


def no_run():
    """Return the empty rule."""
    return Rule([])


def reliable():
    """Return the rule under which no letter is lost."""
    return Rule([[0, None, None, None]])


def at_most_lost(letters):
    """Return the rule under which at most that many letters are lost in the whole sequence."""
    check_count(letters, MOST_PASSED)
    # The number of a state is the number of letters that have been lost.
    return Rule([losing_row(lost, letters) for lost in range(letters + 1)])


def losing_row(lost, letters):
    """Return the entries behind that many lost letters; no more than `letters` may be lost."""
    return [lost + more if lost + more <= letters else None for more in LETTERS_LOST]


def one_way(end):
    """Return the rule under which only letters that the end sends may be lost."""
    check_end(end)
    if end == "first":
        return Rule([[0, 0, None, None]])
    return Rule([[0, None, 0, None]])


def falls_silent():
    """Return the rule under which one end may fall silent forever, and no other letter is lost."""
    return Rule([[0, 1, 2, None], [None, 1, None, None], [None, None, 2, None]])


def losses_apart(rounds):
    """Return the rule with at least that many rounds of `b` between any two other fates."""
    check_count(rounds, MOST_PASSED)
    # The number of a state is the number of rounds of `b` that still must pass.
    waiting = [[left - 1, None, None, None] for left in range(1, rounds + 1)]
    return Rule([[0, rounds, rounds, rounds]] + waiting)
