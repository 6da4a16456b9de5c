"""Checks orders of keys by doing their puts."""

from splitscar.kinds import are_integers
from splitscar.puts import with_keys


def shows_order(tree, value):
    """Whether any value is an order of the keys of the tree whose puts lead to exactly its levels."""
    if not are_integers(value) or tuple(sorted(value)) != tree.stored:
        return False
    return with_keys(tree.rule, value) == tree.levels


def first_apart(tree, keys):
    """The first page, as (level, page), in which the levels of the tree and those of the puts differ, or None."""
    made = with_keys(tree.rule, keys)
    for level in range(max(len(made), tree.depth)):
        page = first_other(pages_at(made, level), pages_at(tree.levels, level))
        if page is not None:
            return level, page
    return None


def pages_at(levels, level):
    """The pages of a level, none if there is no such level."""
    return levels[level] if level < len(levels) else ()


def first_other(pages, others):
    """The number of the first page that differs or that only one of both has, or None."""
    for page in range(max(len(pages), len(others))):
        if pages[page:page + 1] != others[page:page + 1]:
            return page
    return None
