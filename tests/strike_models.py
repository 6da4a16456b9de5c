"""A plain model of needs, prices and rows by the words of [13]."""

from tests.shape_models import below_of, long_and_short, model_asked, model_faults, model_leading, on_edge


def model_need(rule, shape, rooms, level, page):
    """The pair (need, price) of one page, None where there is none."""
    sizes, ghosts = shape
    if level == len(sizes) - 1:
        return model_leaf_need(rule, shape, rooms, page)
    pairs = {lower: model_need(rule, shape, rooms, level + 1, lower) for lower in below_of(sizes, level, page)}
    extra = model_extra(rule, sizes, pairs, level, page)
    asked = model_asked(rule, sizes, level, page)
    faults = model_faults(rule, shape)
    if (level, page, "few") in faults or (level, page, "edge") in faults:
        return (None, None)
    if any(need is None for need, _ in pairs.values()) or (asked and extra is None):
        return (None, None)
    total = sum(need for need, _ in pairs.values())
    need = total + (extra if asked else 0)
    if sizes[level][page] >= long_and_short(rule, False)[0] and extra is not None:
        return (need, total + extra)
    return (need, None)


def model_leaf_need(rule, shape, rooms, leaf):
    sizes, ghosts = shape
    long, short = long_and_short(rule, True)
    base = 0 if len(sizes) == 1 else long if on_edge(rule, sizes, len(sizes) - 1, leaf) else short
    if base > rooms[leaf]:
        return (None, None)
    need = max(1 if leaf in ghosts else 0, base - sizes[-1][leaf], 0)
    price = max(need, long - sizes[-1][leaf])
    return (need, price if long <= rooms[leaf] else None)


def model_extra(rule, sizes, pairs, level, page):
    """The extra of a page that is not a leaf, from the pairs of the pages below it."""
    extras = []
    for lower in model_leading(rule, sizes, level, page):
        need, price = pairs[lower]
        if price is not None:
            extras.append(price - need)
    return min(extras) if extras else None


def model_rows(rule, shape, rooms):
    """The ascending tuple of all rows."""
    sizes = shape[0]
    rows = []
    for level, row in enumerate(sizes):
        for page in range(len(row)):
            if level == len(sizes) - 1:
                need = model_leaf_need(rule, shape, rooms, page)[0]
                if need > 0:
                    rows.append(("leaf", page, need))
            elif model_asked(rule, sizes, level, page):
                below = below_of(sizes, level, page)
                pairs = {lower: model_need(rule, shape, rooms, level + 1, lower) for lower in below}
                extra = model_extra(rule, sizes, pairs, level, page)
                if extra > 0:
                    rows.append(("lead", level, page, extra))
    return tuple(sorted(rows))


def model_ripens(rule, sizes, rooms, level, page):
    """Whether a page can become ripe."""
    if level == len(sizes) - 1:
        return rooms[page] >= long_and_short(rule, True)[0]
    if sizes[level][page] < long_and_short(rule, False)[0]:
        return False
    return any(model_ripens(rule, sizes, rooms, level + 1, lower) for lower in model_leading(rule, sizes, level, page))


def model_refusal(rule, shape, rooms):
    """("room", leaf) or ("fault", fault) if no deeds of keys lead to such levels, otherwise None."""
    sizes = shape[0]
    for leaf, room in enumerate(rooms):
        if model_leaf_need(rule, shape, rooms, leaf)[0] is None:
            return ("room", leaf)
    for level, page, word in model_faults(rule, shape):
        if level < len(sizes) - 1:
            leading = model_leading(rule, sizes, level, page)
            if word != "lead" or not any(model_ripens(rule, sizes, rooms, level + 1, lower) for lower in leading):
                return ("fault", (level, page, word))
    return None


def random_shape(rule, rng, many):
    """A shape of the rule with about so many leaves, mostly not grown, or None."""
    most = rule.leaf_most
    sizes = [tuple(rng.choice([0, 1, most // 2, most, rng.randrange(most + 1)]) for _ in range(many))]
    while len(sizes[0]) > 1:
        rest, row = len(sizes[0]), []
        while rest > 0:
            size = rng.randrange(2, rule.page_most + 1)
            size = rest if rest - size < 2 and rest <= rule.page_most else min(size, rest)
            row.append(size)
            rest -= size
        if 1 in row:
            return None
        sizes.insert(0, tuple(row))
    ghosts = [leaf for leaf in range(1, many) if sizes[-1][leaf] == 0 or rng.random() < 0.2]
    return tuple(sizes), tuple(ghosts)


def least_rooms(shape):
    """The least rooms that leaves of a shape can have."""
    sizes, ghosts = shape
    return tuple(size + (1 if leaf in ghosts else 0) for leaf, size in enumerate(sizes[-1]))


def levels_of_sizes(leaves, between, sizes):
    """Levels with these leaves, these separators between them, and pages of these sizes."""
    levels, row = [leaves], list(between)
    for sizes_above in reversed(sizes[:-1]):
        pages, upper, at = [], [], 0
        for size in sizes_above:
            pages.append(tuple(row[at:at + size - 1]))
            upper += row[at + size - 1:at + size]
            at += size
        levels.insert(0, tuple(pages))
        row = upper
    return tuple(levels)
