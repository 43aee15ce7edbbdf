"""What the tests compare the program with: searches by hand, straight from the document.

Nothing here uses the program. A table is a list of rows of four entries, in the order b, f, s, n.
"""

import random
from itertools import combinations, product

ORDER = "bfsn"


def strings(most):
    """All strings of at most `most` fates, shorter ones first, each length in the order of point 3."""
    return ["".join(parts) for rounds in range(most + 1) for parts in product(ORDER, repeat=rounds)]


def read(table, fates, state=0):
    """The state behind the string of fates, whether or not the machine can go on from there."""
    if not table:
        return None
    for fate in fates:
        if state is None:
            return None
        state = table[state][ORDER.index(fate)]
    return state


def goes_on(table, state):
    """Whether the machine can go on from the state forever: for as many rounds as there are rows."""
    states = {state}
    for _ in table:
        states = {entry for at in states for entry in table[at] if entry is not None}
    return bool(states)


def allowed(table, fates):
    state = read(table, fates)
    return state is not None and goes_on(table, state)


def allowed_by_both(left, right, fates):
    """Whether the string is the beginning of an endless sequence that both tables allow."""
    pairs = {(read(left, fates), read(right, fates))}
    for _ in range(len(left) * len(right) + 1):
        pairs = {pair for pair in pairs if None not in pair}
        if not pairs:
            return False
        pairs = {pair for one, other in pairs for pair in zip(left[one], right[other])}
    return True


def allowed_by_change(left, right, fates):
    """Whether the string is allowed by `left`, or cut somewhere into strings allowed by `left` and `right`."""
    cuts = [at for at in range(len(fates) + 1)
            if allowed(left, fates[:at]) and allowed(right, fates[at:])]
    return allowed(left, fates) or bool(cuts)


def allowed_by_then(left, right, rounds, fates):
    """Whether the string is allowed by `left` for that many rounds, and by `right` behind them."""
    if not allowed(left, "") or not allowed(right, ""):
        return False
    return allowed(left, fates[:rounds]) and allowed(right, fates[rounds:])


def first_apart(left, right):
    """The pairs of states behind equal strings, searched for one that shows a difference."""
    if not allowed(left, "") or not allowed(right, ""):
        return None if allowed(left, "") == allowed(right, "") else ""
    met = {(0, 0): ""}
    waiting = [(0, 0)]
    while waiting:
        pair = waiting.pop(0)
        for at, fate in enumerate(ORDER):
            behind = [table[state][at] for table, state in zip((left, right), pair)]
            ways = [entry is not None and goes_on(table, entry)
                    for table, entry in zip((left, right), behind)]
            if ways[0] != ways[1]:
                return met[pair] + fate
            if ways[0] and tuple(behind) not in met:
                met[tuple(behind)] = met[pair] + fate
                waiting.append(tuple(behind))
    return None


def numbered_as_met(rows):
    """Whether the states are numbered as they are first met, and all of them are met."""
    met = [0]
    for row in rows:
        for entry in row:
            if entry is not None and entry not in met:
                met.append(entry)
    return not rows or met == list(range(len(rows)))


def different_states(rows):
    """Whether no two states allow the same sequences, by marking pairs that differ."""
    size = len(rows)
    marked = {(one, other): [entry is None for entry in rows[one]] != [entry is None for entry in rows[other]]
              for one in range(size) for other in range(size)}
    changed = True
    while changed:
        changed = False
        for one, other in [pair for pair in marked if not marked[pair]]:
            if any(a is not None and marked[(a, b)] for a, b in zip(rows[one], rows[other])):
                marked[(one, other)] = True
                changed = True
    return all(marked[(one, other)] for one in range(size) for other in range(size) if one != other)


def view_by_letters(first, second, fates):
    """The two views of a run, made round by round from letters (point 7)."""
    views = [(first, None, "", 0), (second, None, "", 0)]
    for at, fate in enumerate(fates):
        before = list(views)
        for end, arriving in enumerate(("bf", "bs")):
            own, other, known, silent = before[end]
            if fate in arriving:
                views[end] = (own, before[1 - end][0], fates[:at], 0)
            else:
                views[end] = (own, other, known, silent + 1)
    return views


def some_views(most_known, most_silent):
    """All tuples of the form of a view up to these lengths, those that no run shows among them."""
    return [(own, other, known, silent) for own in (0, 1) for other in (None, 0, 1)
            for known in strings(most_known) for silent in range(most_silent + 1)]


def runs_by_views(most):
    """The parts of each run of at most `most` rounds, by the pair of views that it shows."""
    return {tuple(view_by_letters(first, second, fates)): (first, second, fates)
            for first in (0, 1) for second in (0, 1) for fates in strings(most)}


def is_passable(rows, state, rounds):
    """Point 16, word by word."""
    if rounds == 0:
        return True
    ways = [entry is not None and is_passable(rows, entry, rounds - 1) for entry in rows[state]]
    return ways[3] or (ways[0] and ways[1] and ways[2])


def is_closed_set(rows, states):
    """Point 18, word by word."""
    return all(rows[state][3] in states or all(entry in states for entry in rows[state][:3])
               for state in states)


def closed_sets(rows):
    """All closed sets, found by a look at every set of states."""
    sets = [{state for state, chosen in enumerate(choice) if chosen}
            for choice in product((False, True), repeat=len(rows))]
    return [states for states in sets if is_closed_set(rows, states)]


def all_runs(table, rounds):
    """The parts of all runs with allowed strings of that many fates."""
    rows = trimmed(table) or []
    fates_allowed = [fates for fates in strings(rounds) if len(fates) == rounds and read(rows, fates) is not None]
    return [(first, second, fates) for first in (0, 1) for second in (0, 1) for fates in fates_allowed]


def steps_from(runs, starts):
    """How many neighbours on, alike to an end, each of the runs is from the nearest of the starts."""
    views = {run: list(enumerate(view_by_letters(*run))) for run in runs}
    showing = {}
    for run in runs:
        for view in views[run]:
            showing.setdefault(view, []).append(run)
    steps = {run: 0 for run in starts}
    waiting = list(starts)
    for run in waiting:
        for view in views[run]:
            for other in showing.pop(view, []):
                if other not in steps:
                    steps[other] = steps[run] + 1
                    waiting.append(other)
    return steps


def shortest_chain(table, rounds):
    """How many runs the shortest chain of point 15 has, or None: a walk from the bits 0 0 to 1 1, run by run."""
    runs = all_runs(table, rounds)
    steps = steps_from(runs, [run for run in runs if run[:2] == (0, 0)])
    return min([steps[run] + 1 for run in steps if run[:2] == (1, 1)], default=None)


def has_chain(table, rounds):
    return shortest_chain(table, rounds) is not None


def decisions(table, rounds):
    """What point 20 tells each end to decide, by the views that are shown; the lists of runs are searched."""
    found = {}
    for bits in product((0, 1), repeat=2):
        runs = [run for run in all_runs(table, rounds) if run[:2] == bits]
        silence = steps_from(runs, [run for run in runs if "b" not in run[2] and "s" not in run[2]])
        for run in runs:
            for end, view in zip(("first", "second"), view_by_letters(*run)):
                if view[1] is None or view[1] == view[0]:
                    found[(end, view)] = view[0]
                else:
                    found[(end, view)] = bits[1] if run in silence else bits[0]
    return found


def shown_views(table, rounds):
    """The pairs of an end and a view that it is shown by some run of that many rounds."""
    return {pair for run in all_runs(table, rounds) for pair in zip(("first", "second"), view_by_letters(*run))}


def trimmed(table):
    """The table without entries for states from which the machine cannot go on; None if it is empty."""
    if not table or not goes_on(table, 0):
        return None
    lasting = [goes_on(table, state) for state in range(len(table))]
    return [[entry if entry is not None and lasting[entry] else None for entry in row] for row in table]


def without(table, arrows):
    """The table with the entries of the arrows replaced by None."""
    return [[None if (state, fate) in arrows else entry for fate, entry in zip(ORDER, row)]
            for state, row in enumerate(table)]


def can_be_sure(table):
    """Whether the table is not empty, and the ends can be sure in as many rounds as it has rows (point 18)."""
    rows = trimmed(table)
    return rows is not None and not is_passable(rows, 0, len(rows))


def fewest_arrows(table):
    """Point 25, by a look at every set of arrows; the table is a normal form."""
    arrows = [(state, fate) for state, row in enumerate(table) for fate, entry in zip(ORDER, row) if entry is not None]
    for many in range(len(arrows) + 1):
        for chosen in combinations(arrows, many):
            if can_be_sure(without(table, chosen)):
                return list(chosen)
    return None


def random_run(seed, rows, rounds):
    """The parts of some run with an allowed string of that many fates; `rows` is a normal form."""
    chooser = random.Random(seed)
    state = 0
    fates = ""
    for _ in range(rounds):
        fate = chooser.choice([fate for fate, entry in zip(ORDER, rows[state]) if entry is not None])
        state = rows[state][ORDER.index(fate)]
        fates += fate
    return (chooser.randrange(2), chooser.randrange(2), fates)


def ladder(size, row):
    """A table whose last row allows `b` only; in the others, `row` tells how far each fate leads on."""
    rows = [[None if more is None else min(state + more, size - 1) for more in row] for state in range(size - 1)]
    return rows + [[size - 1, None, None, None]]


def random_table(chooser, size, missing):
    """A table in which about `missing` of a hundred entries are None."""
    return [[None if chooser.randrange(100) < missing else chooser.randrange(size) for _ in ORDER]
            for _ in range(size)]


def random_tables(seed, many, most):
    """Tables of 1 to `most` rows, the same ones in each run of the tests."""
    chooser = random.Random(seed)
    return [random_table(chooser, chooser.randrange(1, most + 1), chooser.choice([20, 50, 70]))
            for _ in range(many)]


def disguised(seed, table):
    """Another table for the same sequences: states doubled, shuffled, and useless ones added."""
    chooser = random.Random(seed)
    size = len(table)
    names = list(range(1, 2 * size + 2))
    chooser.shuffle(names)
    places = [[names[state], names[size + state]] for state in range(size)]
    places[0][0] = 0
    dead = names[2 * size]
    rows = {dead: [None] * 4}
    for state, row in enumerate(table):
        for place in places[state]:
            rows[place] = [dead if entry is None and chooser.randrange(2) else
                           None if entry is None else chooser.choice(places[entry]) for entry in row]
    spare = [place for place in range(2 * size + 2) if place not in rows]
    for place in spare:
        rows[place] = [chooser.randrange(2 * size + 2) for _ in ORDER]
    return [rows[place] for place in range(2 * size + 2)]


def cycle(size, extra, everywhere="b"):
    """A table that goes round in `size` states; the fates `extra` can be read in state 0 only."""
    return [[(state + 1) % size if fate in everywhere or (fate in extra and state == 0) else None
             for fate in ORDER] for state in range(size)]
