"""The deciding function: what each end decides on once the ends can be sure."""

from bothsure.checks import MOST_PASSED, check_count
from bothsure.closing import marked_entries, marks_by_rounds, rounds_needed
from bothsure.errors import CannotDecide, NeverSeen
from bothsure.fates import ARRIVING, ENDS, FATES, check_end
from bothsure.letters import rounds_of
from bothsure.tables import state_after


def shown(rule, end, view):
    """Tell whether some run with an allowed string of fates shows the view to the end."""
    check_end(end)
    return can_show(rule.rows, end, view)


def can_show(rows, end, view):
    """Tell whether a run whose fates can be read from state 0 shows the view to the end."""
    _, other, known, silent = view
    state = state_after(rows, known)
    if state is None:
        return False
    marks = silent_marks(rows, end, silent)
    if other is None:
        return known == "" and marks[state]
    return some_marked(rows[state], ARRIVING[end], marks)


def silent_marks(rows, end, rounds):
    """Mark the states from which that many rounds can pass without a letter to the end."""
    silent_fates = "".join([fate for fate in FATES if fate not in ARRIVING[end]])
    marks = [True] * len(rows)
    for _ in range(rounds):
        kept = [some_marked(row, silent_fates, marks) for row in rows]
        # From here on every further round marks the same states.
        if kept == marks:
            return marks
        marks = kept
    return marks


def some_marked(row, fates, marks):
    """Tell whether the entry for at least one of the fates is marked."""
    return any([mark for fate, mark in zip(FATES, marked_entries(row, marks)) if fate in fates])


def is_tied(rows, passable_marks, end, known):
    """Tell whether a view of the end is tied to the silence of the second end.

    A letter has arrived at the end, the last one in the round behind `known`.
    `passable_marks` holds the marks of the passable states for each number of
    rounds up to the number of rounds of the view.
    """
    last = len(passable_marks) - 1
    ties = (False, True)
    state = 0
    for at, fate in enumerate(known):
        told = ties_if_told(rows[state], passable_marks[last - at - 1], ties)
        ties = tuple([told[side] if fate in ARRIVING[name] else ties[side] for side, name in enumerate(ENDS)])
        state = rows[state][FATES.index(fate)]
    told = ties_if_told(rows[state], passable_marks[last - len(known) - 1], ties)
    return told[ENDS.index(end)]


def ties_if_told(row, marks, ties):
    """Tell for each end whether it is tied behind a round in which a letter arrives at it.

    `marks` are those of the passable states for the rounds left behind this
    one, and `ties` tells for each end whether it was tied before the round.
    """
    both, first, second, _ = marked_entries(row, marks)
    first_tied, second_tied = ties
    return ((first and second_tied) or (both and second and first_tied),
            (second and first_tied) or (both and first and second_tied))


class Decider:
    """What the ends decide on after a number of rounds in which they can be sure."""

    def __init__(self, rule, *, rounds=None):
        if rounds is not None:
            check_count(rounds, MOST_PASSED)
        needed = rounds_needed(rule)
        if needed is None or (rounds is not None and rounds < needed):
            raise CannotDecide()
        self.rows = rule.rows
        self.total = needed if rounds is None else rounds
        self.passable_marks = marks_by_rounds(self.rows, self.total)

    @property
    def rounds(self):
        """The number of rounds after which the ends decide."""
        return self.total

    def __call__(self, end, view):
        """Return the bit that the end decides on."""
        check_end(end)
        own, other, known, _ = view
        if rounds_of(view) != self.rounds or not can_show(self.rows, end, view):
            raise NeverSeen(view)
        if other is None or other == own:
            return own
        first_bit, second_bit = (own, other) if end == "first" else (other, own)
        return second_bit if is_tied(self.rows, self.passable_marks, end, known) else first_bit
