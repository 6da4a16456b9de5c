"""Checks what `way_between` tells: ways by doing their puts, closed sets by going back once from each of them."""

from splitscar.before import levels_before
from splitscar.kinds import are_integers, is_ascending
from splitscar.levels import is_levels, keys_of
from splitscar.puts import with_key


def shows_way(tree, later, value):
    """Whether any value is a way from the tree to the later one, or a closed set that shows that there is none."""
    if not isinstance(value, tuple) or len(value) != 2:
        return False
    word, told = value
    if word == "way":
        return is_way(tree, later, told)
    return word == "never" and is_closed_set(tree, later, told)


def is_way(tree, later, value):
    """Whether a value is a tuple of the new keys whose puts, in this order, lead to the later tree."""
    if not are_integers(value) or tuple(sorted(tree.stored + value)) != later.stored:
        return False
    levels = tree.levels
    for key in value:
        levels = with_key(tree.rule, levels, key)
    return levels == later.levels


def is_closed_set(tree, later, value):
    """Whether a value is a closed set that has the later levels and not the first ones."""
    if not isinstance(value, tuple) or not all([is_levels(tree.rule, levels) for levels in value]):
        return False
    members = set(value)
    if not is_ascending(value) or later.levels not in members or tree.levels in members:
        return False
    known = set(tree.stored)
    for levels in value:
        for key in keys_of(levels):
            if key not in known:
                if not all([earlier in members for earlier in levels_before(tree.rule, levels, key)]):
                    return False
    return True
