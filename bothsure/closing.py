"""Closed sets of states, and how many rounds the ends need to be sure.

A set of states is kept as a list of marks: for each state, True or False.
"""

from bothsure.checks import MOST_PASSED, check_count


def marked_entries(row, marks):
    """Tell for each fate, in the order of FATES, whether its entry is marked."""
    return [entry is not None and marks[entry] for entry in row]


def passes(row, marks):
    """Tell whether the entry for `n` is marked, or the entries for `b`, `f` and `s` all are."""
    both, first, second, neither = marked_entries(row, marks)
    return neither or (both and first and second)


def passing(rows, marks):
    """Mark the states that pass by the given marks, those passable for one round more."""
    return [passes(row, marks) for row in rows]


def marks_by_rounds(rows, rounds):
    """List the marks of the states that are passable for no round, for one round, and so on."""
    found = [[True] * len(rows)]
    for _ in range(rounds):
        found.append(passing(rows, found[-1]))
    return found


def marked_states(marks):
    """Return the list of the marked states, in ascending order."""
    return [state for state, mark in enumerate(marks) if mark]


def passable(rule, *, rounds):
    """Return the list of the states that are passable for that number of rounds."""
    check_count(rounds, MOST_PASSED)
    return marked_states(marks_by_rounds(rule.rows, rounds)[rounds])


def is_closed(rule, states):
    """Tell whether the set of the given states is closed."""
    marks = [False] * rule.size
    for state in states:
        rule.check_state(state)
        marks[state] = True
    return all([passes(rule.rows[state], marks) for state in states])


def closed_states(rule):
    """Return the greatest closed set of states as a list."""
    marks = [True] * rule.size
    kept = passing(rule.rows, marks)
    # No state of a closed set is ever lost, and what passes by its own marks is closed.
    while kept != marks:
        marks = kept
        kept = passing(rule.rows, marks)
    return marked_states(marks)


def rounds_needed(rule):
    """Return the fewest rounds in which the ends can be sure, or None if they never can."""
    if rule.empty:
        return 0
    if 0 in closed_states(rule):
        return None
    marks = [True] * rule.size
    rounds = 0
    while marks[0]:
        marks = passing(rule.rows, marks)
        rounds += 1
    return rounds
