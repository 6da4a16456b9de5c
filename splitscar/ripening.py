"""Which pages can become ripe, and which leaves become ripe with the fewest strikes."""

from splitscar.leads import rows_of_leads
from splitscar.ripeness import is_asked, leading, rows_above
from splitscar.shapes import pages_below
from splitscar.strikes import extras_of


def able_rows(rule, sizes, rooms):
    """For each level, from the top, the list of whether its pages can become ripe."""
    return rows_above(rule, sizes, [room >= rule.leaf_long for room in rooms])


def able_leads(rule, sizes, able, level, page):
    """The list of the leading pages of a page that can become ripe, by what `able_rows` returned."""
    return [lower for lower in leading(rule, sizes, level, page) if able[level + 1][lower]]


def vital_leaves(rule, sizes, able):
    """For each leaf whether the root would have no need if this leaf alone could not become ripe any more."""
    row = [False]
    for level in range(len(sizes) - 1):
        lower_row = [False] * len(sizes[level + 1])
        for page, is_vital in enumerate(row):
            if is_vital or is_asked(rule, sizes, level, page):
                found = able_leads(rule, sizes, able, level, page)
                if len(found) == 1:
                    lower_row[found[0]] = True
        row = lower_row
    return row


def cheapest_lead(rule, sizes, pairs, level, page):
    """The leading page of a page with the least price minus need, by what `needs` returned."""
    start, end = pages_below(sizes, level, page)
    extras = extras_of(rule, pairs[level + 1][start:end])
    least = min([extra for extra in extras if extra is not None])
    return leading(rule, sizes, level, page)[extras.index(least)]


def strikes_of_leaves(rule, sizes, pairs):
    """For each leaf how many of its keys are struck where the fewest are struck in all."""
    rows = rows_of_leads(rule, sizes, lambda level, page: cheapest_lead(rule, sizes, pairs, level, page))
    ripe = {lower: True for level, page, lower in rows if level == len(sizes) - 2}
    return [price if leaf in ripe else need for leaf, (need, price) in enumerate(pairs[-1])]
