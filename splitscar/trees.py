"""Trees: a rule with levels of it."""

from splitscar.errors import InvalidTree, NoPage
from splitscar.kinds import is_index
from splitscar.levels import is_levels, keys_of, spot_of
from splitscar.puts import inserted, removed, with_key, with_keys, without_key
from splitscar.reader import read_levels
from splitscar.texts import show_levels


class KnownLevels:
    """Levels that surely are of the rule, so that a tree of them need not look: a look takes longer than a put."""

    def __init__(self, levels, stored):
        self._levels = levels
        self._stored = stored


def known_tree(rule, levels):
    """The tree of levels that surely are of the rule."""
    return Tree(rule, KnownLevels(levels, keys_of(levels)))


class Tree:
    """A tree that never changes: a put or a strike gives another one."""

    def __init__(self, rule, levels=(((),),)):
        self._rule = rule
        if isinstance(levels, KnownLevels):
            self._levels = levels._levels
            self._stored = levels._stored
        elif is_levels(rule, levels):
            self._levels = levels
            self._stored = keys_of(levels)
        else:
            raise InvalidTree()

    @property
    def rule(self):
        return self._rule

    @property
    def levels(self):
        return self._levels

    @property
    def stored(self):
        return self._stored

    @property
    def depth(self):
        return len(self._levels)

    def walk(self):
        """Yields (level, page, integers) for each page, level by level, from the left."""
        for level, pages in enumerate(self._levels):
            for page, integers in enumerate(pages):
                yield level, page, integers

    def __getitem__(self, at):
        level, page = at
        if not is_index(level, len(self._levels)):
            raise NoPage(level, page)
        if not is_index(page, len(self._levels[level])):
            raise NoPage(level, page)
        return self._levels[level][page]

    def __iter__(self):
        raise TypeError("a tree is not iterated over: use walk() or stored")

    def __add__(self, other):
        levels = with_key(self._rule, self._levels, other)
        return Tree(self._rule, KnownLevels(levels, inserted(self._stored, other)))

    def __sub__(self, other):
        levels = without_key(self._levels, other)
        return Tree(self._rule, KnownLevels(levels, removed(self._stored, other)))

    def __contains__(self, x):
        return spot_of(self._levels, x) is not None

    def __len__(self):
        return len(self._stored)

    @classmethod
    def grown(cls, rule, *keys):
        """The tree that puts of the keys, one after another, make of the empty one."""
        levels = with_keys(rule, keys)
        return cls(rule, KnownLevels(levels, keys_of(levels)))

    @classmethod
    def read(cls, rule, text):
        """The tree of a text of levels."""
        levels = read_levels(rule, text)
        return cls(rule, KnownLevels(levels, keys_of(levels)))

    def __eq__(self, other):
        return isinstance(other, Tree) and self._rule == other._rule and self._levels == other._levels

    def __str__(self):
        return str(show_levels(self._levels))

    def __repr__(self):
        return f"Tree({len(self._stored)} keys, {len(self._levels)} levels)"
