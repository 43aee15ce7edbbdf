"""Chains: runs that lead from the bits 0 and 0 to the bits 1 and 1, neighbours alike to an end."""

from bothsure.checks import MOST_PASSED, check_count
from bothsure.closing import is_closed
from bothsure.errors import NoChain, NotClosed, OutOfChain
from bothsure.passages import passage_lengths, passage_string
from bothsure.runs import Run


def chain_length(lengths):
    """Return the number of runs of the chain that a shortest passage of state 0 gives."""
    return lengths[-1][0] + 2


def chain_run(rows, lengths, position):
    """Return the run at the position of the chain that a shortest passage of state 0 gives."""
    last = chain_length(lengths) - 1
    if position == 0:
        return Run(0, 0, passage_string(rows, lengths, 0))
    if position == last:
        return Run(1, 1, passage_string(rows, lengths, last - 2))
    return Run(0, 1, passage_string(rows, lengths, position - 1))


class Chain:
    """A shortest chain for a number of rounds under a rule."""

    def __init__(self, rule, *, rounds):
        check_count(rounds, MOST_PASSED)
        lengths = passage_lengths(rule.rows, [True] * rule.size, rounds)
        if rule.empty or lengths[rounds][0] is None:
            raise NoChain()
        self.rows = rule.rows
        self.lengths = lengths

    @property
    def rounds(self):
        """The number of rounds of the runs."""
        return len(self.lengths) - 1

    @property
    def length(self):
        """The number of the runs."""
        return chain_length(self.lengths)

    def __getitem__(self, at):
        """Return the run at the position."""
        if at < 0 or at >= self.length:
            raise OutOfChain(at)
        return chain_run(self.rows, self.lengths, at)

    def __iter__(self):
        raise TypeError("a chain is not iterated over, ask for a piece of it")

    def piece(self, start, stop):
        """Yield the runs at the positions from `start` to `stop - 1`, as far as there are such."""
        behind = stop if stop < self.length else self.length
        for at in range(start, behind):
            yield self[at]


def spin(rule, states, *, rounds):
    """Yield the runs of a chain whose runs meet no other states than those of a closed set."""
    closed = is_closed(rule, states)
    check_count(rounds, MOST_PASSED)
    if not closed or 0 not in states:
        raise NotClosed()
    # The marks and lengths are made before the first run, so later changes of the list mean nothing.
    marks = [state in states for state in range(rule.size)]
    lengths = passage_lengths(rule.rows, marks, rounds)
    for at in range(chain_length(lengths)):
        yield chain_run(rule.rows, lengths, at)
