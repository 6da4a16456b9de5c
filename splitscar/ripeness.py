"""Ripe pages: those that can have been split."""

from splitscar.shapes import pages_below


def kept_page(rule, sizes, level):
    """The number of the page of this level on the kept edge."""
    return 0 if rule.keeps_left else len(sizes[level]) - 1


def long_at(rule, sizes, level):
    """The greater part of a split page of this level."""
    return rule.leaf_long if level == len(sizes) - 1 else rule.page_long


def short_at(rule, sizes, level):
    """The lesser part of a split page of this level."""
    return rule.leaf_short if level == len(sizes) - 1 else rule.page_short


def leading(rule, sizes, level, page):
    """The numbers of the leading pages, the one nearest to the side of the kept edge first."""
    if level == len(sizes) - 1:
        return ()
    start, end = pages_below(sizes, level, page)
    below = list(range(start, end))
    if not rule.keeps_left:
        below = below[::-1]
    return tuple(below[:rule.page_short])


def is_asked(rule, sizes, level, page):
    """Whether a page must have grown, so that it needs a ripe leading page."""
    if level == len(sizes) - 1 or page == kept_page(rule, sizes, level):
        return False
    return sizes[level][page] != rule.page_short


def ripe_rows(rule, sizes):
    """For each level, from the top, the list of whether its pages are ripe."""
    return rows_above(rule, sizes, [size >= rule.leaf_long for size in sizes[-1]])


def rows_above(rule, sizes, row):
    """For each level, from the top, the list of whether its pages are ripe, if it is this one for the leaves."""
    upwards = [row]
    for level in range(len(sizes) - 2, -1, -1):
        row = ripe_above(rule, sizes, level, row)
        upwards.append(row)
    return upwards[::-1]


def ripe_above(rule, sizes, level, row):
    """Whether the pages of a level are ripe, from whether those of the next level are."""
    ripe = []
    for page, size in enumerate(sizes[level]):
        lead = any([row[lower] for lower in leading(rule, sizes, level, page)])
        ripe.append(size >= rule.page_long and lead)
    return ripe


def ripe_lead(rule, sizes, ripe, level, page):
    """The first leading page that is ripe, by what `ripe_rows` returned, or None."""
    for lower in leading(rule, sizes, level, page):
        if ripe[level + 1][lower]:
            return lower
    return None


def is_ripe(rule, sizes, level, page):
    """Whether a page is ripe."""
    return ripe_rows(rule, sizes)[level][page]


def ripe_pages(rule, sizes):
    """Yields (level, page) for all ripe pages, ascending."""
    for level, row in enumerate(ripe_rows(rule, sizes)):
        for page, is_so in enumerate(row):
            if is_so:
                yield level, page
