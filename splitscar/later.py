"""What lies between two moments of one index."""

from splitscar.between import way_between
from splitscar.errors import NotLater, Rebuilt
from splitscar.levels import separators_of


def check_later(first, later):
    """Raises an error unless the second evidence can be of a later moment without a rebuild in between."""
    if later.commit < first.commit:
        raise NotLater(None)
    if later.born != first.born:
        raise Rebuilt(later.born)
    lacking = keys_without(separators_of(first.levels), separators_of(later.levels))
    if lacking:
        raise NotLater(lacking[0])


def keys_without(row, other):
    """The list of the keys of a row that another one does not have."""
    known = set(other)
    return [key for key in row if key not in known]


def struck_between(first, later):
    """The ascending tuple of the keys that were struck in between, as far as the two moments tell."""
    check_later(first, later)
    gone = keys_without(first.tree.stored, later.tree.stored)
    return tuple(sorted(set(gone) | set(keys_without(later.ghosts, first.ghosts))))


def puts_between(first, later, *, limit=500):
    """("struck", keys) with these keys, or, if there are none, what `way_between` returns for the trees."""
    struck = struck_between(first, later)
    if struck:
        return "struck", struck
    return way_between(first.tree, later.tree, limit=limit)
