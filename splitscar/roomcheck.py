"""Checks deeds of keys by playing them, and rows that show that so many strikes are needed."""

from splitscar.errors import InvalidEvent
from splitscar.kinds import are_integers, is_index, is_key, is_same
from splitscar.levels import spot_of
from splitscar.puts import with_key, without_key
from splitscar.ripeness import is_asked, leading
from splitscar.rooms import MOST_DEEDS, bad_faults, pairs_of, rooms_of
from splitscar.shapes import shape_of
from splitscar.strikes import base_of
from splitscar.trees import known_tree

ROW_LENGTHS = {"leaf": 3, "lead": 4}


def played_keys(rule, deeds):
    """The tree to which deeds of keys lead; any values may stand among them."""
    levels = (((),),)
    for index, deed in enumerate(deeds):
        if not can_be_done(levels, deed):
            raise InvalidEvent(index)
        levels = played(rule, levels, deed)
    return known_tree(rule, levels)


def can_be_done(levels, value):
    """Whether any value is a deed of keys that can be done with these levels."""
    if not isinstance(value, tuple) or len(value) != 2 or not isinstance(value[0], str) or not is_key(value[1]):
        return False
    is_there = spot_of(levels, value[1]) is not None
    return value[0] == ("strike" if is_there else "put")


def played(rule, levels, deed):
    """The levels behind a deed of keys that can be done."""
    return with_key(rule, levels, deed[1]) if deed[0] == "put" else without_key(levels, deed[1])


def shows_strikes(tree, value):
    """Whether any value shows the fewest strikes of the levels of a tree, or that no deeds of keys lead to them."""
    if not isinstance(value, tuple) or not value or not isinstance(value[0], str):
        return False
    word = value[0]
    if word == "fewest" and len(value) == 3:
        return shows_fewest(tree, value[1], value[2])
    if word == "room" and len(value) == 2:
        return shows_room(tree, value[1])
    if word == "fault" and len(value) == 2:
        every = bad_faults(tree.rule, shape_of(tree.levels), rooms_of(tree))
        return any([is_same(fault, value[1]) for fault in every])
    return False


def shows_room(tree, value):
    """Whether any value is the number of a leaf whose base is greater than its room."""
    sizes = shape_of(tree.levels)[0]
    return is_index(value, len(sizes[-1])) and base_of(tree.rule, sizes, value) > rooms_of(tree)[value]


def shows_fewest(tree, deeds, rows):
    """Whether any values are deeds of keys that lead to the levels of a tree, and rows of as many strikes."""
    if not leads_to(tree, deeds):
        return False
    strikes = len([deed for deed in deeds if deed[0] == "strike"])
    return sum_of_rows(tree.rule, shape_of(tree.levels)[0], pairs_of(tree.rule, tree.levels)[-1], rows) == strikes


def leads_to(tree, value):
    """Whether any value is a tuple of not too many deeds of keys that lead to exactly the levels of a tree."""
    if not isinstance(value, tuple) or len(value) > MOST_DEEDS:
        return False
    levels = (((),),)
    for deed in value:
        if not can_be_done(levels, deed):
            return False
        levels = played(tree.rule, levels, deed)
    return levels == tree.levels


def sum_of_rows(rule, sizes, leaf_pairs, value):
    """The sum of the counts of any value that is a tuple of rows by these needs and prices of the leaves, or None.

    No two rows need the same strikes: each leaf is in one row at most, and no leaf in two cones. So each page is
    in one row at most, too.
    """
    if not isinstance(value, tuple) or not all([is_count_row(row) for row in value]):
        return None
    met = {"leaf": [], "lead": []}
    for row in value:
        cone = cone_of_row(rule, sizes, row)
        if row[-1] > most_of_row(leaf_pairs, row, cone):
            return None
        met[row[0]].extend(cone)
    if not all([len(set(leaves)) == len(leaves) for leaves in (met["leaf"], met["lead"])]):
        return None
    return sum([row[-1] for row in value])


def is_count_row(value):
    """Whether any value has the form of a row with a count."""
    if not isinstance(value, tuple) or not value or not isinstance(value[0], str):
        return False
    return len(value) == ROW_LENGTHS.get(value[0]) and are_integers(value[1:]) and value[-1] > 0


def cone_of_row(rule, sizes, row):
    """The list of the leaves that a row is about: one leaf, or the cone of a page that is asked, otherwise none."""
    if row[0] == "leaf":
        return [row[1]] if is_index(row[1], len(sizes[-1])) else []
    level, page = row[1:3]
    if not is_index(level, len(sizes) - 1) or not is_index(page, len(sizes[level])):
        return []
    return cone_of(rule, sizes, level, page) if is_asked(rule, sizes, level, page) else []


def cone_of(rule, sizes, level, page):
    """The list of the leaves of the cone of a page that is not a leaf."""
    row = list(leading(rule, sizes, level, page))
    for lower_level in range(level + 1, len(sizes) - 1):
        long_pages = [lower for lower in row if sizes[lower_level][lower] >= rule.page_long]
        row = [leaf for lower in long_pages for leaf in leading(rule, sizes, lower_level, lower)]
    return row


def most_of_row(leaf_pairs, row, cone):
    """The greatest count of a row about these leaves; 0 if no count fits."""
    if row[0] == "leaf":
        return sum([leaf_pairs[leaf][0] for leaf in cone])
    priced = [leaf_pairs[leaf] for leaf in cone if leaf_pairs[leaf][1] is not None]
    return min([price - need for need, price in priced], default=0)
