"""Deeds: what is done to the table of a file."""

from splitscar.kinds import is_key
from splitscar.values import is_value

LENGTHS = {"put": 3, "strike": 2, "strike range": 3, "rebuild": 1}


def is_deed(value):
    """Whether any value is a deed."""
    if not isinstance(value, tuple) or not value or not isinstance(value[0], str):
        return False
    word = value[0]
    if word not in LENGTHS or len(value) != LENGTHS[word]:
        return False
    if word == "put":
        return is_key(value[1]) and is_value(value[2])
    return all([is_key(key) for key in value[1:]])
