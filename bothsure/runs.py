"""Runs: the bits of the two ends and the fates of the rounds."""

from bothsure.checks import check_bit, check_count
from bothsure.fates import arrives, check_end, check_fates, swap_fates


def last_arrival(fates, end):
    """Return the last round in which a letter arrived at the end, or None."""
    for at in reversed(range(len(fates))):
        if arrives(fates[at], at=end):
            return at
    return None


class Run:
    """The bit of the first end, the bit of the second end and a string of fates."""

    def __init__(self, first, second, fates):
        check_bit(first)
        check_bit(second)
        check_fates(fates)
        self.first = first
        self.second = second
        self.fates = fates

    @property
    def rounds(self):
        """The number of rounds."""
        return len(self.fates)

    def __getitem__(self, at):
        return self.fates[at]

    def __iter__(self):
        return iter(self.fates)

    def __eq__(self, other):
        return (isinstance(other, Run) and self.first == other.first
                and self.second == other.second and self.fates == other.fates)

    def __str__(self):
        return f"{self.first} {self.second} {self.fates or '-'}"

    def seen(self, end):
        """Return the view of the end: `(own, other, known, silent)`."""
        check_end(end)
        own, other = self.first, self.second
        if end == "second":
            own, other = self.second, self.first
        last = last_arrival(self.fates, end)
        if last is None:
            return (own, None, "", self.rounds)
        return (own, other, self.fates[:last], self.rounds - last - 1)

    def cut(self, rounds):
        """Return the run with the same bits and the first `rounds` fates."""
        check_count(rounds, self.rounds)
        return Run(self.first, self.second, self.fates[:rounds])

    def swapped(self):
        """Return the run with the two ends exchanged."""
        return Run(self.second, self.first, swap_fates(self.fates))


def alike(one, other, *, to):
    """Tell whether the two runs show the end `to` the same view."""
    return one.seen(to) == other.seen(to)
