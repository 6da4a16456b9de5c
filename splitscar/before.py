"""Trees before a tree: those that become it by the put of a key.

The put of a key splits no page, or its leaf, or the leaf and some pages above it, each
into two neighbours. So the trees before it are found by joining such neighbours again.
"""

from splitscar.errors import NoKey
from splitscar.levels import between_lower, is_levels, spot_of
from splitscar.puts import removed, replaced, with_key, without_key
from splitscar.trees import KnownLevels, Tree


def before(tree, key):
    """Yields all trees before the tree by the key, ascending by levels."""
    for levels in sorted(all_before(tree, key)):
        yield Tree(tree.rule, KnownLevels(levels, removed(tree.stored, key)))


def count_before(tree, key):
    """The number of the trees before the tree by the key."""
    return len(all_before(tree, key))


def is_before(tree, key, value):
    """Whether any value is the levels of a tree before the tree by the key."""
    if key not in tree:
        raise NoKey(key)
    if not is_levels(tree.rule, value) or spot_of(value, key) is not None:
        return False
    return with_key(tree.rule, value, key) == tree.levels


def all_before(tree, key):
    """The levels of all trees before the tree by the key, in some order."""
    if key not in tree:
        raise NoKey(key)
    return levels_before(tree.rule, tree.levels, key)


def levels_before(rule, levels, key):
    """All levels before levels by a key that one of their leaves has, in some order."""
    leaf = spot_of(levels, key)[0]
    found = [without_key(levels, key)]
    pairs = [at for at in (leaf - 1, leaf) if are_parts(levels[-1], at, rule.leaf_left, rule.leaf_right)]
    between = rows_between(levels) if pairs else []
    for at in pairs:
        left, right = levels[-1][at:at + 2]
        # The separator of the right part was its first key when it came about.
        if between[-1][at] == right[0]:
            row = joined(levels[-1], at, removed(left + right, key))
            found.extend([upper + (row,) for upper in uppers(rule, levels, between, len(levels) - 1, at)])
    return found


def are_parts(pages, at, left, right):
    """Whether a page and the next one have just so many integers as the parts of a split page."""
    return 0 <= at < len(pages) - 1 and len(pages[at]) == left and len(pages[at + 1]) == right


def rows_between(levels):
    """For each level the separators between its neighbouring pages, from the left."""
    rows = [()]
    for pages in levels[:-1]:
        rows.append(between_lower(pages, rows[-1]))
    return rows


def joined(pages, at, page):
    """A level with one page in the place of two."""
    return pages[:at] + (page,) + pages[at + 2:]


def uppers(rule, levels, between, level, at):
    """All that the levels above this one can have been before a page was split into this one and the next."""
    pages = levels[level - 1]
    left = page_above(pages, at)
    gone = between[level][at]
    # Where the parts stand below two pages, the separator between these went up from between the parts.
    if left < page_above(pages, at + 1):
        return uppers_split(rule, levels, between, level - 1, left, gone)
    found = uppers_unsplit(levels, level - 1, left, gone)
    for other in (left - 1, left):
        found.extend(uppers_split(rule, levels, between, level - 1, other, gone))
    return found


def page_above(pages, at):
    """The number of the page of a level below which a page of the next level stands."""
    end = 0
    for number, page in enumerate(pages):
        end = end + len(page) + 1
        if at < end:
            return number
    return len(pages)


def uppers_unsplit(levels, level, page, gone):
    """The levels down to this one if this page was not split when it took the separator that is gone."""
    rest = removed(levels[level][page], gone)
    if rest:
        return [levels[:level] + (replaced(levels[level], page, (rest,)),)]
    # Only a new root begins with one separator.
    return [()] if level == 0 else []


def uppers_split(rule, levels, between, level, at, gone):
    """All that the levels down to this one can have been if this page and the next one were split then."""
    pages = levels[level]
    if not are_parts(pages, at, rule.page_left - 1, rule.page_right - 1):
        return []
    whole = pages[at] + (between[level][at],) + pages[at + 1]
    row = joined(pages, at, removed(whole, gone))
    return [upper + (row,) for upper in uppers(rule, levels, between, level, at)]
