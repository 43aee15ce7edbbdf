"""Rules of loss: small machines that say which losses may happen."""

from bothsure.checks import MOST_PASSED, check_count
from bothsure.errors import InvalidState
from bothsure.fates import FATES, check_fates
from bothsure.joining import is_within, rows_of_both, rows_of_change, rows_of_either, rows_of_then
from bothsure.tables import check_rows, normal_form, state_after


class Rule:
    """A rule of loss; its attribute `rows` is the normal form of the table."""

    def __init__(self, rows):
        check_rows(rows)
        self.rows = normal_form(rows)

    @property
    def size(self):
        """The number of states."""
        return len(self.rows)

    @property
    def empty(self):
        """True if no endless sequence is allowed."""
        return not self.rows

    def check_state(self, state):
        """Raise InvalidState for a number that is not the number of a state."""
        if state < 0 or state >= self.size:
            raise InvalidState(state)

    def step(self, state, fate):
        """Return the next state for the fate in the state, or None."""
        self.check_state(state)
        check_fates(fate)
        return self.rows[state][FATES.index(fate)]

    def after(self, fates):
        """Return the state behind the string of fates, or None if it is not allowed."""
        check_fates(fates)
        return state_after(self.rows, fates)

    def allowed_at(self, state):
        """Return the string of the fates that can be read in the state."""
        self.check_state(state)
        return "".join([fate for fate, entry in zip(FATES, self.rows[state]) if entry is not None])

    def then(self, other, *, rounds):
        """Return the rule of that many rounds under this rule, and all later ones under the other."""
        check_count(rounds, MOST_PASSED)
        return Rule(rows_of_then(self.rows, other.rows, rounds))

    def __or__(self, other):
        return Rule(rows_of_either(self.rows, other.rows))

    def __and__(self, other):
        return Rule(rows_of_both(self.rows, other.rows))

    def __rshift__(self, other):
        return Rule(rows_of_change(self.rows, other.rows))

    def __invert__(self):
        return Rule([(both, second, first, neither) for both, first, second, neither in self.rows])

    def __contains__(self, x):
        """Tell whether the string of fates `x` is allowed."""
        return self.after(x) is not None

    def __le__(self, other):
        return is_within(self.rows, other.rows)

    def __lt__(self, other):
        return is_within(self.rows, other.rows) and self.rows != other.rows

    def __eq__(self, other):
        return isinstance(other, Rule) and self.rows == other.rows
