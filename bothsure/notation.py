"""Rules as text: one line for each state, such as `0: b0 f1 s2`."""

from bothsure.errors import InvalidNotation
from bothsure.fates import FATES
from bothsure.rules import Rule

DIGITS = "0123456789"


def format_rule(rule):
    """Return the text of the rule."""
    return "\n".join([format_row(state, row) for state, row in enumerate(rule.rows)])


def format_row(state, row):
    """Return the line of a state."""
    parts = [f"{fate}{entry}" for fate, entry in zip(FATES, row) if entry is not None]
    return " ".join([f"{state}:"] + parts)


def parse_rule(text):
    """Return the rule that the text stands for."""
    if text == "":
        return Rule([])
    return Rule([parse_row(at, line) for at, line in enumerate(text.split("\n"))])


def parse_row(at, line):
    """Return the row of the table that the line with this index stands for."""
    parts = line.split(" ")
    if parts[0] != f"{at}:":
        raise InvalidNotation(at)
    row = [None] * len(FATES)
    fates_left = FATES
    for part in parts[1:]:
        fate, digits = part[:1], part[1:]
        if fate not in fates_left or not is_number(digits):
            raise InvalidNotation(at)
        row[FATES.index(fate)] = int(digits)
        # No fate comes twice or behind a later one.
        fates_left = fates_left[fates_left.index(fate) + 1:]
    return row


def is_number(digits):
    """Tell whether the text is a number written without a sign and without leading zeros."""
    if digits == "" or not all([digit in DIGITS for digit in digits]):
        return False
    return digits == "0" or digits[0] != "0"
