"""Letters: how the views of the two ends grow round by round, and how they fit together."""

from bothsure.checks import check_bit
from bothsure.errors import Unmatched
from bothsure.fates import check_end
from bothsure.runs import Run


def rounds_of(view):
    """Return the number of rounds of a view."""
    return rounds_heard(view) + view[3]


def rounds_heard(view):
    """Return the number of rounds up to the last one in which a letter arrived, 0 if none did."""
    if view[1] is None:
        return 0
    return len(view[2]) + 1


def joined_fates(first_view, second_view):
    """Return the only fates that can have shown the two views, if they have equally many rounds."""
    first_heard, second_heard = rounds_heard(first_view), rounds_heard(second_view)
    if first_heard == 0 and second_heard == 0:
        return "n" * rounds_of(first_view)
    # The end that heard a letter last knows all fates before it. Behind it nothing arrived at all.
    last, fate = first_view, "b"
    if first_heard > second_heard:
        fate = "f"
    elif first_heard < second_heard:
        last, fate = second_view, "s"
    return last[2] + fate + "n" * last[3]


def join_views(first_view, second_view):
    """Return the run that shows the first view to the first end and the second one to the second."""
    if rounds_of(first_view) != rounds_of(second_view):
        raise Unmatched()
    run = Run(first_view[0], second_view[0], joined_fates(first_view, second_view))
    # What the views say of bits and earlier fates has not been compared yet.
    if run.seen("first") != first_view or run.seen("second") != second_view:
        raise Unmatched()
    return run


def grow(end, view, letter):
    """Return the end's view after one more round, in which the letter arrives or, if None, is lost."""
    check_end(end)
    own, other, known, silent = view
    if letter is None:
        return (own, other, known, silent + 1)
    if end == "first":
        run = join_views(view, letter)
    else:
        run = join_views(letter, view)
    return (own, letter[0], run.fates, 0)


class End:
    """An end that takes part in a run; its attribute `name` is the name of the end."""

    def __init__(self, name, bit):
        check_end(name)
        check_bit(bit)
        self.name = name
        self.seen_so_far = (bit, None, "", 0)

    @property
    def view(self):
        """The end's view so far."""
        return self.seen_so_far

    def receive(self, letter):
        """Let one round pass, in which the letter arrives or, if None, is lost."""
        self.seen_so_far = grow(self.name, self.seen_so_far, letter)
