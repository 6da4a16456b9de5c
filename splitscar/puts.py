"""How a key is put into levels or struck from them. The levels that are passed stay as they are."""

from splitscar.errors import InvalidKey, NoKey, Present
from splitscar.kinds import is_key
from splitscar.levels import index_below, way_down


def with_key(rule, levels, key):
    """The levels with a key put."""
    if not is_key(key):
        raise InvalidKey(key)
    way = way_down(levels, key)
    leaf = levels[-1][way[-1]]
    if key in leaf:
        raise Present(key)
    pages, up = parted_leaf(rule, inserted(leaf, key))
    upwards = [replaced(levels[-1], way[-1], pages)]
    level = len(levels) - 2
    while up and level >= 0:
        page = levels[level][way[level]]
        at = index_below(page, key)
        pages, up = parted_page(rule, page[:at] + up + page[at:])
        upwards.append(replaced(levels[level], way[level], pages))
        level = level - 1
    if up:
        upwards.append((up,))
    return levels[:level + 1] + tuple(upwards[::-1])


def inserted(row, key):
    """A row of keys with one more, in ascending order."""
    at = index_below(row, key)
    return row[:at] + (key,) + row[at:]


def parted_leaf(rule, keys):
    """The leaves that the keys give, one or two, and the tuple of the separator that goes up."""
    if len(keys) <= rule.leaf_most:
        return (keys,), ()
    left, right = rule.leaf_parts(keys)
    return (left, right), right[:1]


def parted_page(rule, separators):
    """The pages that separators give, one or two, and the tuple of the separator that goes up."""
    if len(separators) < rule.page_most:
        return (separators,), ()
    left, up, right = rule.parts(separators)
    return (left, right), (up,)


def replaced(level, page, pages):
    """A level with other pages in the place of one."""
    return level[:page] + pages + level[page + 1:]


def without_key(levels, key):
    """The levels with a key struck."""
    if not is_key(key):
        raise InvalidKey(key)
    page = way_down(levels, key)[-1]
    leaf = levels[-1][page]
    if key not in leaf:
        raise NoKey(key)
    return levels[:-1] + (replaced(levels[-1], page, (removed(leaf, key),)),)


def removed(row, integer):
    """An ascending row without one of its integers."""
    at = index_below(row, integer)
    return row[:at - 1] + row[at:]


def with_keys(rule, keys):
    """The levels that the puts of keys, one after another, make of the empty ones."""
    levels = (((),),)
    for key in keys:
        levels = with_key(rule, levels, key)
    return levels
