"""The strings of fates that a rule allows, one by one, by their number, and beside another rule."""

from bothsure.checks import MOST_PASSED, check_count
from bothsure.fates import FATES
from bothsure.joining import first_apart


def words(rule, *, rounds):
    """Yield all allowed strings of that many fates, in order."""
    check_count(rounds, MOST_PASSED)
    if not rule.empty:
        yield from words_from(rule.rows, 0, rounds)


def words_from(rows, state, rounds):
    """Yield all strings of that many fates that can be read from the state, in order."""
    if rounds == 0:
        yield ""
        return
    for fate, entry in zip(FATES, rows[state]):
        if entry is not None:
            for later in words_from(rows, entry, rounds - 1):
                yield fate + later


def count(rule, *, rounds):
    """Return the number of allowed strings of that many fates."""
    check_count(rounds, MOST_PASSED)
    if rule.empty:
        return 0
    # How many strings can be read from each state: in no round, the empty string alone.
    many = [1] * rule.size
    for _ in range(rounds):
        many = [sum([many[entry] for entry in row if entry is not None]) for row in rule.rows]
    return many[0]


def apart(one, other):
    """Return the first string that `one` allows and `other` does not allow, or None."""
    return first_apart(one.rows, other.rows)
