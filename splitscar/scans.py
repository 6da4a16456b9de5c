"""Reads the records of sound files."""

from splitscar.errors import InvalidKey, NoKey
from splitscar.images import path_to
from splitscar.kinds import KEY_LEAST, KEY_MOST, is_key
from splitscar.values import held_value


def held_between(file, low, high):
    """The list of the pairs (key, held) with keys from low to high, ascending.

    It yields nothing, since properties and operators run it, which may change no generator.
    """
    found = []
    page = path_to(file, low)[-1]
    while page is not None:
        records, right = file[page][1:]
        found.extend([record for record in records if low <= record[0] <= high])
        page = None if records and records[-1][0] > high else right
    return found


def records_in(file, *, low=None, high=None):
    """Yields the records of a sound file with keys from low to high, ascending; None is no bound."""
    for bound in (low, high):
        if bound is not None and not is_key(bound):
            raise InvalidKey(bound)
    least = KEY_LEAST if low is None else low
    greatest = KEY_MOST if high is None else high
    for key, held in held_between(file, least, greatest):
        yield key, held_value(file, held)


def table_of(file):
    """The table of a sound file: the ascending tuple of its records."""
    return tuple([(key, held_value(file, held)) for key, held in held_between(file, KEY_LEAST, KEY_MOST)])


def value_of(file, key):
    """The value of a key; any value may be asked for."""
    if not is_key(key):
        raise NoKey(key)
    found = held_between(file, key, key)
    if not found:
        raise NoKey(key)
    return held_value(file, found[0][1])


def keys_between(file, low, high):
    """The ascending tuple of the keys from low to high."""
    return tuple([key for key, held in held_between(file, low, high)])
