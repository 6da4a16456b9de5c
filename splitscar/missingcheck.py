"""Checks what shows that entries are missing."""

from splitscar.kinds import is_integer, is_key
from splitscar.roomcheck import sum_of_rows


def shows_missing(missing, value):
    """Whether any value is a pair of gaps and of rows that show how many strikes are missing."""
    return sure_by(missing, value) is not None


def sure_by(missing, value):
    """How many strikes are surely missing by the rows of such a pair, or None if any value is none."""
    if not isinstance(value, tuple) or len(value) != 2 or not are_gaps(missing.gaps, value[0]):
        return None
    return sum_of_rows(missing.rule, missing.sizes, missing.leaf_pairs, value[1])


def are_gaps(gaps, value):
    """Whether any value is a tuple of different ones of these gaps."""
    if not isinstance(value, tuple) or not all([is_gap(gap) for gap in value]):
        return False
    known = set(gaps)
    return len(set(value)) == len(value) and all([gap in known for gap in value])


def is_gap(value):
    """Whether any value has the form of a gap."""
    if not isinstance(value, tuple) or len(value) != 4 or not is_key(value[0]) or not isinstance(value[1], str):
        return False
    return is_integer(value[2]) and is_integer(value[3])
