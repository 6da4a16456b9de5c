"""Levels: the pages of a tree as tuples, from the root to the leaves."""

from splitscar.errors import InvalidKey
from splitscar.kinds import is_ascending, is_key


def is_levels(rule, value):
    """Whether any value is levels of the rule."""
    return has_form(value) and sizes_fit(rule, sizes_of(value)) and has_order(value)


def has_form(value):
    """Whether a value is a tuple of one or more tuples of pages."""
    return isinstance(value, tuple) and len(value) > 0 and all([is_level(level) for level in value])


def is_level(value):
    """Whether a value is a tuple of pages."""
    return isinstance(value, tuple) and all([is_page(page) for page in value])


def is_page(value):
    """Whether a value is a tuple of keys."""
    return isinstance(value, tuple) and all([is_key(item) for item in value])


def sizes_fit(rule, sizes):
    """Whether no size is too great or too small, and each level has just the pages below the one above it."""
    many = 1
    for row in sizes[:-1]:
        if len(row) != many or not all([2 <= size <= rule.page_most for size in row]):
            return False
        many = sum(row)
    leaves = sizes[-1]
    return len(leaves) == many and all([0 <= size <= rule.leaf_most for size in leaves])


def has_order(levels):
    """Whether the integers ascend; only a key may equal the separator directly before it."""
    between = separators_of(levels)
    if not is_ascending(between):
        return False
    for at, leaf in enumerate(levels[-1]):
        if not is_ascending(leaf):
            return False
        if at > 0 and leaf and leaf[0] < between[at - 1]:
            return False
        if at < len(between) and leaf and leaf[-1] >= between[at]:
            return False
    return True


def keys_of(levels):
    """The ascending tuple of all keys in leaves."""
    return tuple([key for leaf in levels[-1] for key in leaf])


def separators_of(levels):
    """The ascending tuple of all separators: those between neighbouring leaves, from the left."""
    between = ()
    for pages in levels[:-1]:
        between = between_lower(pages, between)
    return between


def between_lower(pages, between):
    """The separators between the pages of the next level, from those between these pages."""
    row = []
    for at, page in enumerate(pages):
        row.extend(page)
        row.extend(between[at:at + 1])
    return tuple(row)


def sizes_of(levels):
    """The levels with its size in the place of each page."""
    upper = [tuple([len(page) + 1 for page in pages]) for pages in levels[:-1]]
    return (*upper, tuple([len(leaf) for leaf in levels[-1]]))


def index_below(integers, key):
    """How many of ascending integers are not greater: the index, among the pages below, of the one for a key."""
    low, high = 0, len(integers)
    while low < high:
        middle = (low + high) // 2
        if integers[middle] <= key:
            low = middle + 1
        else:
            high = middle
    return low


def way_down(levels, key):
    """The numbers of the pages from the root to the leaf to which a key goes."""
    at = 0
    way = [0]
    for pages in levels[:-1]:
        start = sum([len(page) + 1 for page in pages[:at]])
        at = start + index_below(pages[at], key)
        way.append(at)
    return tuple(way)


def leaf_for(levels, key):
    """The number of the leaf to which a key goes, whether it is there or not."""
    if not is_key(key):
        raise InvalidKey(key)
    return way_down(levels, key)[-1]


def spot_of(levels, key):
    """The number of the leaf that has a key and the index in it; None if no leaf has it."""
    if not is_key(key):
        return None
    at = leaf_for(levels, key)
    leaf = levels[-1][at]
    if key not in leaf:
        return None
    return at, index_below(leaf, key) - 1


def ghosts_of(levels):
    """The ascending tuple of the numbers of the leaves whose separators are ghosts."""
    leaves = levels[-1][1:]
    between = separators_of(levels)
    return tuple([at + 1 for at, leaf in enumerate(leaves) if between[at] not in leaf])


def ghost_keys(levels):
    """The ascending tuple of the separators that are ghosts."""
    between = separators_of(levels)
    return tuple([between[leaf - 1] for leaf in ghosts_of(levels)])
