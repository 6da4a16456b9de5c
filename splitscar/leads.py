"""Tables of leads: a ripe leading page for each page that must have grown."""

from splitscar.errors import NotGrown
from splitscar.faults import fault, faults
from splitscar.kinds import are_integers, is_index
from splitscar.ripeness import is_asked, leading, long_at, ripe_lead, ripe_rows


def leads(rule, shape):
    """A table of leads of a grown shape."""
    found = fault(rule, shape)
    if found is not None:
        raise NotGrown(found)
    sizes = shape[0]
    ripe = ripe_rows(rule, sizes)
    return rows_of_leads(rule, sizes, lambda level, page: ripe_lead(rule, sizes, ripe, level, page))


def rows_of_leads(rule, sizes, lead_of):
    """The tuple of a row for each page that is asked, and for each lower page that is not a leaf."""
    lower_pages = {}
    rows = []
    for level in range(len(sizes) - 1):
        for page in range(len(sizes[level])):
            if is_asked(rule, sizes, level, page) or (level, page) in lower_pages:
                lower = lead_of(level, page)
                rows.append((level, page, lower))
                lower_pages[(level + 1, lower)] = True
    return tuple(rows)


def shows_grown(rule, shape, value):
    """Whether any value, a table of leads, shows that the shape is grown."""
    if any([word != "lead" for level, page, word in faults(rule, shape)]):
        return False
    if not isinstance(value, tuple) or not all([are_integers(row) and len(row) == 3 for row in value]):
        return False
    sizes = shape[0]
    if not all([is_lead(rule, sizes, row) for row in value]):
        return False
    return [row[:2] for row in value] == sorted(set(asked_pages(rule, sizes) + lower_pages_of(sizes, value)))


def is_lead(rule, sizes, row):
    """Whether a row names a page that is not a leaf and a long one of its leading pages."""
    level, page, lower = row
    if not is_index(level, len(sizes) - 1) or not is_index(page, len(sizes[level])):
        return False
    if lower not in leading(rule, sizes, level, page):
        return False
    return sizes[level + 1][lower] >= long_at(rule, sizes, level + 1)


def asked_pages(rule, sizes):
    """The pairs (level, page) of all pages that are asked."""
    return [
        (level, page)
        for level in range(len(sizes) - 1)
        for page in range(len(sizes[level]))
        if is_asked(rule, sizes, level, page)
    ]


def lower_pages_of(sizes, rows):
    """The pairs (level, page) of the lower pages of rows that are not leaves."""
    return [(level + 1, lower) for level, page, lower in rows if level + 2 < len(sizes)]
