"""Faults: what in a shape shows that keys were struck."""

from splitscar.kinds import is_integer
from splitscar.ripeness import is_asked, kept_page, long_at, ripe_lead, ripe_rows, short_at
from splitscar.shapes import shape_of


def size_words(rule, sizes, level, page):
    """The words of the faults that the size of a page is."""
    size = sizes[level][page]
    if level == 0 or size >= long_at(rule, sizes, level):
        return []
    if size < short_at(rule, sizes, level):
        return ["few"]
    return ["edge"] if page == kept_page(rule, sizes, level) else []


def fault_words(rule, shape, ripe, level, page):
    """The words of all faults of a page, in their order."""
    sizes, ghosts = shape
    words = size_words(rule, sizes, level, page)
    if is_asked(rule, sizes, level, page) and ripe_lead(rule, sizes, ripe, level, page) is None:
        words.append("lead")
    if level == len(sizes) - 1 and page in ghosts:
        words.append("ghost")
    return words


def faults(rule, shape):
    """Yields all faults of a shape, by level, page and word."""
    sizes = shape[0]
    ripe = ripe_rows(rule, sizes)
    for level, row in enumerate(sizes):
        for page in range(len(row)):
            for word in fault_words(rule, shape, ripe, level, page):
                yield level, page, word


def fault(rule, shape):
    """The first fault of a shape, or None."""
    for found in faults(rule, shape):
        return found
    return None


def tree_fault(tree):
    """The first fault of the shape of a tree, or None."""
    return fault(tree.rule, shape_of(tree.levels))


def shows_fault(rule, shape, value):
    """Whether any value is a fault of the shape."""
    if not isinstance(value, tuple) or len(value) != 3:
        return False
    level, page, word = value
    if not is_integer(level) or not is_integer(page) or not isinstance(word, str):
        return False
    every = list(faults(rule, shape))
    return value in every
