"""Packs keys into grown levels with as few pages as there can be.

On each level the pages are filled from the side of the kept edge on, so that only the
farthest page may be less than long. Each other page has a leading page that is ripe.
"""


def least_pages(rule, many):
    """The least number of pages of grown levels with so many keys."""
    return sum(page_counts(rule, many))


def page_counts(rule, many):
    """The least numbers of pages of the levels, from the leaves to the root."""
    counts = [max(1, divided_up(many, rule.leaf_most))]
    while counts[-1] > 1:
        counts.append(divided_up(counts[-1], rule.page_most))
    return counts


def divided_up(many, most):
    """How many groups of at most `most` there must be."""
    return (many + most - 1) // most


def packed_levels(rule, keys):
    """Grown levels of the ascending keys, with as few pages as there can be."""
    counts = page_counts(rule, len(keys))
    sizes = shares(rule, len(keys), counts[0], rule.leaf_most, rule.leaf_short)
    leaves = groups_of(keys, sizes)
    between = tuple([leaf[0] for leaf in leaves[1:]])
    upwards = [leaves]
    for many, count in zip(counts, counts[1:]):
        sizes = shares(rule, many, count, rule.page_most, rule.page_short)
        pages, between = pages_above(between, sizes)
        upwards.append(pages)
    return tuple(upwards[::-1])


def shares(rule, many, parts, most, short):
    """The sizes of so many parts, as great as can be from the side of the kept edge on, each at least short."""
    sizes = []
    for behind in range(parts - 1, -1, -1):
        size = min(most, many - behind * short)
        sizes.append(size)
        many = many - size
    return sizes if rule.keeps_left else sizes[::-1]


def groups_of(row, sizes):
    """A row cut into tuples of these sizes."""
    groups = []
    start = 0
    for size in sizes:
        groups.append(row[start:start + size])
        start = start + size
    return tuple(groups)


def pages_above(between, sizes):
    """The pages above pages with these separators between them, and the separators between those pages."""
    groups = groups_of(between, sizes)
    pages = tuple([group[:size - 1] for group, size in zip(groups, sizes)])
    return pages, tuple([group[-1] for group in groups[:-1]])
