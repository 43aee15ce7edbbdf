"""Tables of rules: the check, the normal form and the reading of fates.

A table has one row for each state. A row has one entry for each fate, in the
order of FATES: the number of the next state, or None.
"""

from bothsure.errors import InvalidRule
from bothsure.fates import FATES


def check_rows(rows):
    """Raise InvalidRule for the first row that cannot stand in the table."""
    for state, row in enumerate(rows):
        if len(row) != len(FATES) or not all([fits(entry, len(rows)) for entry in row]):
            raise InvalidRule(state)


def fits(entry, size):
    """Tell whether the entry is None or the number of one of `size` rows."""
    return entry is None or 0 <= entry < size


def renamed(row, names):
    """Return the row with each entry replaced by the name that it has in `names`."""
    return tuple([None if entry is None else names[entry] for entry in row])


def normal_form(rows):
    """Return the normal form of a table whose rows have been checked."""
    names = endless_names(rows)
    if not rows or names[0] is None:
        return ()
    return merged(met_rows([renamed(row, names) for row in rows]))


def endless_names(rows):
    """Name each state from which the machine can go on forever by its number, the others None."""
    ways = [len([entry for entry in row if entry is not None]) for row in rows]
    sources = state_sources(rows)
    names = list(range(len(rows)))
    stuck = [state for state in range(len(rows)) if ways[state] == 0]
    while stuck:
        state = stuck.pop()
        names[state] = None
        for source in sources[state]:
            ways[source] = ways[source] - 1
            if ways[source] == 0:
                stuck.append(source)
    return names


def state_sources(rows):
    """List for each state the states whose entries lead to it, once for each such entry."""
    sources = [[] for _ in rows]
    for state, row in enumerate(rows):
        for entry in row:
            if entry is not None:
                sources[entry].append(state)
    return sources


def met_rows(rows):
    """Renumber the states as they are first met from state 0; those never met are dropped."""
    order = states_met(rows)
    numbers = {state: number for number, state in enumerate(order)}
    return [renamed(rows[state], numbers) for state in order]


def states_met(rows):
    """List the states that can be reached from state 0, as they are first met."""
    order = [0]
    met = {0: True}
    at = 0
    while at < len(order):
        row = rows[order[at]]
        at += 1
        for entry in row:
            if entry is not None and entry not in met:
                met[entry] = True
                order.append(entry)
    return order


def merged(rows):
    """Make one state of all those that allow the same sequences.

    The order of the states as they are first met is the order of the first
    strings that lead to them. So the kinds are in the right order already if
    each kind stands where its first state stands.
    """
    kinds = state_kinds(rows)
    found = []
    for row, kind in zip(rows, kinds):
        if kind == len(found):
            found.append(renamed(row, kinds))
    return tuple(found)


def state_kinds(rows):
    """Give the same number to exactly those states that allow the same sequences."""
    kinds = [0] * len(rows)
    finer = refined(rows, kinds)
    while finer != kinds:
        kinds = finer
        finer = refined(rows, kinds)
    return kinds


def refined(rows, kinds):
    """Split the kinds by the kinds that the fates lead to, numbered as they are first met."""
    numbers = {}
    finer = []
    for row, kind in zip(rows, kinds):
        sign = (kind, renamed(row, kinds))
        if sign not in numbers:
            numbers[sign] = len(numbers)
        finer.append(numbers[sign])
    return finer


def state_after(rows, fates):
    """Return the state behind the string of fates, or None if it cannot be read."""
    state = 0 if rows else None
    for fate in fates:
        if state is None:
            return None
        state = rows[state][FATES.index(fate)]
    return state
