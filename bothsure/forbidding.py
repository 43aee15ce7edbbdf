"""Forbidding arrows of a rule, and the fewest that make the ends sure."""

from bothsure.closing import rounds_needed
from bothsure.fates import FATES, check_fates
from bothsure.rules import Rule


def forbid(rule, arrows):
    """Return the rule that is left when all the given arrows are forbidden."""
    rows = [list(row) for row in rule.rows]
    for state, fate in arrows:
        rule.check_state(state)
        check_fates(fate)
        rows[state][FATES.index(fate)] = None
    return Rule(rows)


def fewest_to_forbid(rule):
    """Return the first of the shortest lists of arrows to forbid so that the ends can be sure, or None."""
    for arrows in short_lists(arrows_of(rule)):
        left = forbid(rule, arrows)
        if not left.empty and rounds_needed(left) is not None:
            return arrows
    return None


def arrows_of(rule):
    """List the arrows of the rule, in ascending order."""
    return [(state, fate) for state in range(rule.size) for fate in rule.allowed_at(state)]


def short_lists(arrows):
    """List all lists of at most two of the arrows, shorter ones first.

    No list needs more than two arrows. Follow `n` from state 0 through the
    states that have no other entry. If a state with another entry is met,
    forbid `n` there, and `b` if `b`, `f` and `s` can all be read there. Then
    this state is not passable for one round, and so neither is state 0 for the
    rounds up to it, while an entry is left in every state. If no such state is
    met, the only endless sequence is `n` forever, and no list will do.
    """
    ones = [[arrow] for arrow in arrows]
    twos = [[arrow, later] for at, arrow in enumerate(arrows) for later in arrows[at + 1:]]
    return [[]] + ones + twos
