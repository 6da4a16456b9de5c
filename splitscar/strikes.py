"""Needs and prices of pages: the fewest strikes below a page, as it is and if it is to be ripe, too."""

from splitscar.faults import size_words
from splitscar.ripeness import is_asked, kept_page


def needs(rule, shape, rooms):
    """The pair (need, price) of each page, level by level; None is a need or a price that there is not."""
    sizes, ghosts = shape
    marked = set(ghosts)
    row = [
        leaf_pair(rule, base_of(rule, sizes, leaf), size, 1 if leaf in marked else 0, rooms[leaf])
        for leaf, size in enumerate(sizes[-1])
    ]
    return pairs_above(rule, sizes, tuple(row))


def base_of(rule, sizes, leaf):
    """The least size that a leaf had when it came about."""
    if len(sizes) == 1:
        return 0
    return rule.leaf_long if leaf == kept_page(rule, sizes, len(sizes) - 1) else rule.leaf_short


def leaf_pair(rule, base, size, ghost, room):
    """The need and the price of a leaf; `ghost` is 1 if its separator is a ghost, otherwise 0."""
    if base > room:
        return None, None
    need = max(ghost, base - size, 0)
    if rule.leaf_long > room:
        return need, None
    return need, max(need, rule.leaf_long - size)


def pairs_above(rule, sizes, leaves):
    """The pairs of all pages, level by level, from the tuple of those of the leaves."""
    upwards = [leaves]
    for level in range(len(sizes) - 2, -1, -1):
        upwards.append(pairs_of_level(rule, sizes, level, upwards[-1]))
    return tuple(upwards[::-1])


def pairs_of_level(rule, sizes, level, lower):
    """The pairs of the pages of a level, from those of the next level."""
    row = []
    start = 0
    for page, size in enumerate(sizes[level]):
        row.append(page_pair(rule, sizes, level, page, lower[start:start + size]))
        start = start + size
    return tuple(row)


def page_pair(rule, sizes, level, page, below):
    """The need and the price of a page that is not a leaf, from the pairs of the pages below it."""
    extra = least_extra(rule, below)
    asked = is_asked(rule, sizes, level, page)
    if size_words(rule, sizes, level, page) or any([need is None for need, price in below]):
        return None, None
    if asked and extra is None:
        return None, None
    total = sum([need for need, price in below])
    need = total + extra if asked else total
    if extra is None or sizes[level][page] < rule.page_long:
        return need, None
    return need, total + extra


def extras_of(rule, below):
    """Price minus need of each leading page, the one nearest to the kept side first; None without a price."""
    leading_pairs = below[:rule.page_short] if rule.keeps_left else below[::-1][:rule.page_short]
    return [None if price is None else price - need for need, price in leading_pairs]


def least_extra(rule, below):
    """The least price minus need of the leading pages of a page, or None if none of them has a price."""
    return min([extra for extra in extras_of(rule, below) if extra is not None], default=None)
