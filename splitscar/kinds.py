"""Checks of the kinds of values, with which any value can be looked at."""

KEY_MOST = 999999999999999
KEY_LEAST = -999999999999999


def is_integer(value):
    """Whether a value is an integer; True and False are none."""
    return isinstance(value, int) and not isinstance(value, bool)


def is_key(value):
    """Whether a value is an integer of at most 15 digits."""
    return is_integer(value) and KEY_LEAST <= value <= KEY_MOST


def is_index(value, many):
    """Whether a value is a number from 0 on, below `many`."""
    return is_integer(value) and 0 <= value < many


def are_integers(value):
    """Whether a value is a tuple of integers."""
    return isinstance(value, tuple) and all([is_integer(item) for item in value])


def is_ascending(row):
    """Whether each integer of a row is greater than the one before it."""
    return all([low < high for low, high in zip(row, row[1:])])


def is_same(known, value):
    """Whether any value is a known one, a tuple at any depth: of the same kinds throughout, since True equals 1."""
    if isinstance(known, tuple):
        if not isinstance(value, tuple) or len(value) != len(known):
            return False
        return all([is_same(part, other) for part, other in zip(known, value)])
    if isinstance(known, str):
        return isinstance(value, str) and value == known
    return value is None if known is None else is_integer(value) and value == known
