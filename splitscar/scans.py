"""Reads the records of sound files."""

from splitscar.errors import InvalidKey, NoKey
from splitscar.images import path_to
from splitscar.kinds import KEY_LEAST, KEY_MOST, is_key
from splitscar.values import held_value


def held_between(file, low, high):
    """Yields the pairs (key, held) with keys from low to high, ascending."""
    page = path_to(file, low)[-1]
    while page is not None:
        records, right = file[page][1:]
        for key, held in records:
            if key > high:
                return
            if key >= low:
                yield key, held
        page = right


def records_in(file, *, low=None, high=None):
    """Yields the records of a sound file with keys from low to high, ascending; None is no bound."""
    for bound in (low, high):
        if bound is not None and not is_key(bound):
            raise InvalidKey(bound)
    least = KEY_LEAST if low is None else low
    greatest = KEY_MOST if high is None else high
    for key, held in held_between(file, least, greatest):
        yield key, held_value(file, held)


def table_of(file):
    """The table of a sound file: the ascending tuple of its records."""
    return tuple(records_in(file))


def value_of(file, key):
    """The value of a key; any value may be asked for."""
    if not is_key(key):
        raise NoKey(key)
    for _, held in held_between(file, key, key):
        return held_value(file, held)
    raise NoKey(key)


def keys_between(file, low, high):
    """The ascending tuple of the keys from low to high."""
    return tuple([key for key, _ in held_between(file, low, high)])
