"""The rooms of leaves, and what they tell of the strikes in deeds of keys that lead to levels."""

from splitscar.errors import NoHistory, NoRoom, TooLong
from splitscar.faults import faults
from splitscar.kinds import KEY_LEAST, KEY_MOST
from splitscar.leads import asked_pages
from splitscar.levels import separators_of
from splitscar.ripening import able_leads, able_rows, strikes_of_leaves, vital_leaves
from splitscar.shapes import pages_below, shape_of
from splitscar.shrinking import order_of
from splitscar.strikes import base_of, least_extra, needs
from splitscar.trees import known_tree

MOST_DEEDS = 600


def bounds_of(levels):
    """For each leaf the least key that goes to it, and the one behind the greatest."""
    between = separators_of(levels)
    return list(zip((KEY_LEAST, *between), (*between, KEY_MOST + 1)))


def rooms_of(tree):
    """The tuple of the rooms of the leaves of a tree."""
    return rooms_between(bounds_of(tree.levels))


def rooms_between(bounds):
    """The tuple of the rooms of leaves with these bounds."""
    return tuple([end - start for start, end in bounds])


def pairs_of(rule, levels):
    """The needs and prices of the pages of levels."""
    return needs(rule, shape_of(levels), rooms_between(bounds_of(levels)))


def fewest_of(rule, levels):
    """The fewest strikes of levels, or None."""
    return pairs_of(rule, levels)[0][0][0]


def fewest_strikes(tree):
    """The fewest strikes of the levels of a tree, or None."""
    return fewest_of(tree.rule, tree.levels)


def check_history(rule, shape, rooms):
    """Raises NoRoom or NoHistory if no deeds of keys lead to levels with this shape and these rooms."""
    sizes = shape[0]
    for leaf, room in enumerate(rooms):
        if base_of(rule, sizes, leaf) > room:
            raise NoRoom(leaf)
    bad = bad_faults(rule, shape, rooms)
    if bad:
        raise NoHistory(bad[0])


def bad_faults(rule, shape, rooms):
    """The list of the faults that show that no deeds of keys lead to levels with this shape and these rooms."""
    sizes = shape[0]
    able = able_rows(rule, sizes, rooms)
    return [
        (level, page, word)
        for level, page, word in faults(rule, shape)
        if level < len(sizes) - 1 and (word != "lead" or not able_leads(rule, sizes, able, level, page))
    ]


def checked_shape(tree):
    """The shape of a tree to whose levels deeds of keys lead; raises NoRoom or NoHistory for another one."""
    shape = shape_of(tree.levels)
    check_history(tree.rule, shape, rooms_of(tree))
    return shape


def strike_rows(tree):
    """The ascending tuple of all rows. Their numbers add up to the fewest strikes of the levels."""
    sizes = checked_shape(tree)[0]
    return rows_of_pairs(tree.rule, sizes, pairs_of(tree.rule, tree.levels))


def rows_of_pairs(rule, sizes, pairs):
    """The ascending tuple of the rows by these needs and prices."""
    rows = [("leaf", leaf, need) for leaf, (need, price) in enumerate(pairs[-1]) if need > 0]
    for level, page in asked_pages(rule, sizes):
        start, end = pages_below(sizes, level, page)
        extra = least_extra(rule, pairs[level + 1][start:end])
        if extra > 0:
            rows.append(("lead", level, page, extra))
    return tuple(sorted(rows))


def least_deeds(tree):
    """Deeds of keys with the fewest strikes that lead to exactly the levels of a tree.

    A grown tree is built that has the struck keys, too. Then these are struck.
    """
    sizes, ghosts = checked_shape(tree)
    pairs = pairs_of(tree.rule, tree.levels)
    if len(tree) + len(ghosts) + 2 * pairs[0][0][0] > MOST_DEEDS:
        raise TooLong(MOST_DEEDS)
    struck, late, leaves = [], [], []
    counts = strikes_of_leaves(tree.rule, sizes, pairs)
    bounds = bounds_of(tree.levels)
    for leaf, many, (start, end) in zip(tree.levels[-1], counts, bounds):
        new_keys = least_free(leaf, many, start, end)
        # A full leaf has no room for the key of its ghost, so its last key is put behind the strike.
        kept = leaf[:-1] if len(leaf) + many > tree.rule.leaf_most else leaf
        struck.extend(new_keys)
        late.extend(leaf[len(kept):])
        leaves.append(tuple(sorted(kept + new_keys)))
    full = known_tree(tree.rule, tree.levels[:-1] + (tuple(leaves),))
    puts, strikes, last = deeds_of("put", order_of(full)), deeds_of("strike", struck), deeds_of("put", late)
    return puts + strikes + last


def least_free(leaf, many, start, end):
    """The tuple of the least keys, so many, that go to a leaf and are not in it. First comes that of a ghost."""
    return tuple([key for key in range(start, min(end, start + many + len(leaf))) if key not in leaf][:many])


def deeds_of(word, row):
    """The tuple of the deeds with this word for a row of keys."""
    return tuple([(word, key) for key in row])


def surely_struck(tree):
    """The ascending tuple of the keys that all deeds of keys strike that lead to the levels of a tree."""
    sizes, ghosts = checked_shape(tree)
    marked = set(ghosts)
    rule, bounds = tree.rule, bounds_of(tree.levels)
    vital = vital_leaves(rule, sizes, able_rows(rule, sizes, rooms_between(bounds)))
    found = []
    for leaf, (start, end) in enumerate(bounds):
        room = end - start
        if room == base_of(rule, sizes, leaf) or (vital[leaf] and room == rule.leaf_long):
            found.extend([key for key in range(start, end) if key not in tree.levels[-1][leaf]])
        elif leaf in marked:
            found.append(start)
    return tuple(found)
