"""Ways between trees: orders of puts that lead from one tree to a later one, found by going back."""

from splitscar.before import levels_before
from splitscar.errors import TooLarge, TooMany
from splitscar.levels import spot_of

MOST_NEW_KEYS = 6


class Back:
    """All levels to which going back leads from later ones, by keys that the first ones do not have."""

    def __init__(self, rule, new_keys, limit):
        self._rule = rule
        self._new_keys = new_keys
        self._limit = limit
        self._ways = {}
        self._steps = {}

    def go_from(self, later):
        """Goes back from levels, one key in each round; raises TooMany(limit)."""
        self._ways[later] = 1
        self.check()
        row = [later]
        while row:
            following = []
            for levels in row:
                following.extend(self.go_back(levels))
            row = following

    def go_back(self, levels):
        """Goes back by each key; returns the levels that were not met before."""
        found = []
        for key in self._new_keys:
            if spot_of(levels, key) is not None:
                for earlier in levels_before(self._rule, levels, key):
                    if earlier not in self._ways:
                        found.append(earlier)
                        self._ways[earlier] = 0
                        self._steps[earlier] = (key, levels)
                        self.check()
                    self._ways[earlier] = self._ways[earlier] + self._ways[levels]
        return found

    def check(self):
        """Raises TooMany(limit) if more levels are met."""
        if len(self._ways) > self._limit:
            raise TooMany(self._limit)

    def orders_from(self, levels):
        """How many orders of puts lead from these levels to the later ones."""
        return self._ways.get(levels, 0)

    def way_from(self, levels):
        """One of these orders."""
        found = []
        while levels in self._steps:
            key, levels = self._steps[levels]
            found.append(key)
        return tuple(found)

    def met(self):
        """The ascending tuple of all levels that were met."""
        return tuple(sorted(list(self._ways)))


def gone_back(tree, later, limit):
    """Goes back from the later tree as far as this can lead to the first one."""
    new_keys = keys_new_in(tree, later)
    if len(new_keys) > MOST_NEW_KEYS:
        raise TooLarge(MOST_NEW_KEYS)
    back = Back(tree.rule, new_keys, limit)
    back.go_from(later.levels)
    return back


def keys_new_in(tree, later):
    """The ascending list of the keys that only the later tree has."""
    known = set(tree.stored)
    return [key for key in later.stored if key not in known]


def way_between(tree, later, *, limit=500):
    """("way", keys) with an order of puts that leads to the later tree, or ("never", levels) with a closed set."""
    back = gone_back(tree, later, limit)
    if back.orders_from(tree.levels) > 0:
        return "way", back.way_from(tree.levels)
    return "never", back.met()


def count_ways(tree, later, *, limit=500):
    """The number of the orders of puts that lead from the tree to the later one."""
    return gone_back(tree, later, limit).orders_from(tree.levels)
