"""Shortest passages: how many strings they have, and the string at any position.

Lengths are kept for each number of rounds and each state: how many strings a
shortest passage of the state has, or None if the state has no passage.
"""

from bothsure.fates import FATES


def passage_lengths(rows, marks, rounds):
    """List the lengths of passages for no round, for one round, and so on.

    Only passages that stay in the marked states count.
    """
    found = [[1 if mark else None for mark in marks]]
    for _ in range(rounds):
        lengths = found[-1]
        found.append([shortest(entry_lengths(row, lengths)) if mark else None
                      for row, mark in zip(rows, marks)])
    return found


def entry_lengths(row, lengths):
    """Return the length for each entry of the row, None for an entry without a passage."""
    return [None if entry is None else lengths[entry] for entry in row]


def shortest(many):
    """Return the length of a shortest passage that begins with passages of these lengths, or None."""
    both, first, second, neither = many
    if both is None or first is None or second is None:
        return neither
    around = second + both + first
    return around if neither is None or around < neither else neither


def passage_string(rows, lengths, position):
    """Return the string at the position in a shortest passage of state 0."""
    state = 0
    fates = ""
    for left in reversed(range(len(lengths) - 1)):
        fate, position = first_fate(entry_lengths(rows[state], lengths[left]), position)
        state = rows[state][FATES.index(fate)]
        fates = fates + fate
    return fates


def first_fate(many, position):
    """Return the first fate of the string at the position, and the position of what follows it."""
    both, _, second, neither = many
    if neither == shortest(many):
        return "n", position
    if position < second:
        return "s", position
    if position < second + both:
        # The passage behind `b` is gone through in reverse order.
        return "b", second + both - 1 - position
    return "f", position - second - both
