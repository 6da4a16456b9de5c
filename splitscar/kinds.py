"""Checks of the kinds of values, with which any value can be looked at."""

KEY_MOST = 999999999999999
KEY_LEAST = -999999999999999


def is_integer(value):
    """Whether a value is an integer; True and False are none."""
    return isinstance(value, int) and not isinstance(value, bool)


def is_key(value):
    """Whether a value is an integer of at most 15 digits."""
    return is_integer(value) and KEY_LEAST <= value <= KEY_MOST


def is_index(value, many):
    """Whether a value is a number from 0 on, below `many`."""
    return is_integer(value) and 0 <= value < many


def are_integers(value):
    """Whether a value is a tuple of integers."""
    return isinstance(value, tuple) and all([is_integer(item) for item in value])


def is_ascending(row):
    """Whether each integer of a row is greater than the one before it."""
    return all([low < high for low, high in zip(row, row[1:])])
