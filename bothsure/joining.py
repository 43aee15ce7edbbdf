"""Two tables, both in normal form: tables made of them for the operators of rules, and their order.

The tables that are returned need not be normal forms. In each of them the
start is state 0.
"""

from bothsure.fates import FATES
from bothsure.tables import renamed


def pair_number(one, other, width):
    """Number the pair of a left and a right state, where the right table has `width` rows."""
    if one is None or other is None:
        return None
    return one * width + other


def rows_of_both(left, right):
    """Return a table that allows what both tables allow."""
    return [[pair_number(one, other, len(right)) for one, other in zip(left_row, right_row)]
            for left_row in left for right_row in right]


def with_stop(rows):
    """Add a last state in which the machine has stopped; each missing entry leads there."""
    stop = len(rows)
    return [[stop if entry is None else entry for entry in row] for row in rows] + [[stop] * len(FATES)]


def rows_of_either(left, right):
    """Return a table that allows what at least one of the two tables allows."""
    pairs = rows_of_both(with_stop(left), with_stop(right))
    # In the last pair both machines have stopped, so nothing can be read any more.
    stop = len(pairs) - 1
    return [[None if entry == stop else entry for entry in row] for row in pairs[:stop]]


def rows_of_change(left, right):
    """Return a table of `left` that may change to `right` before any round."""
    if not left:
        return []
    order = [change_state(0, [], right)]
    numbers = {order[0]: 0}
    rows = []
    while len(rows) < len(order):
        states = change_row(order[len(rows)], left, right)
        for state in states:
            if state is not None and state not in numbers:
                numbers[state] = len(order)
                order.append(state)
        rows.append(renamed(states, numbers))
    return rows


def change_row(state, left, right):
    """Return the four states behind a state of the table of a change, or None for each."""
    one, others = state
    row = []
    for at in range(len(FATES)):
        after = None if one is None else left[one][at]
        row.append(change_state(after, [right[other][at] for other in others], right))
    return row


def change_state(one, others, right):
    """Return the left state, or None, and all right states that the machine may be in.

    While the left table can still be read, the change may come at once, so that
    the start of the right table is among them. None is returned if both the left
    state and all the right states are missing.
    """
    found = [other for other in range(len(right)) if other in others or (other == 0 and one is not None)]
    if one is None and not found:
        return None
    return (one, tuple(found))


def rows_of_then(left, right, rounds):
    """Return a table of that many rounds of `left`, and of `right` behind them."""
    if not left or not right:
        return []
    size = len(left)
    start = rounds * size
    rows = []
    for at in range(1, rounds + 1):
        # All states behind the last of these rounds are the start of the right table.
        names = [start if at == rounds else at * size + state for state in range(size)]
        rows.extend([renamed(row, names) for row in left])
    names_behind = list(range(start, start + len(right)))
    return rows + [renamed(row, names_behind) for row in right]


def is_within(left, right):
    """Tell whether everything that the left table allows is allowed by the right one."""
    return first_apart(left, right) is None


def first_apart(left, right):
    """Return the first string that the left table allows and the right one does not, or None.

    The pairs of states behind equal strings are met in the order of the first
    strings that lead to them, shorter strings first.
    """
    if not left:
        return None
    if not right:
        return ""
    order = [(0, 0)]
    strings = {(0, 0): ""}
    at = 0
    while at < len(order):
        one, other = order[at]
        fates = strings[order[at]]
        at += 1
        for fate, one_behind, other_behind in zip(FATES, left[one], right[other]):
            if one_behind is None:
                continue
            if other_behind is None:
                return fates + fate
            if (one_behind, other_behind) not in strings:
                strings[(one_behind, other_behind)] = fates + fate
                order.append((one_behind, other_behind))
    return None
