"""Shapes: the sizes of the pages of levels, and which separators are ghosts."""

from splitscar.errors import NoPage
from splitscar.kinds import are_integers, is_ascending, is_index
from splitscar.levels import ghosts_of, sizes_fit, sizes_of


def is_shape(rule, value):
    """Whether any value is a shape of the rule."""
    if not isinstance(value, tuple) or len(value) != 2:
        return False
    sizes, ghosts = value
    return are_sizes(rule, sizes) and are_ghosts(sizes[-1], ghosts)


def are_sizes(rule, value):
    """Whether a value is the sizes of some levels of the rule."""
    if not isinstance(value, tuple) or not value:
        return False
    return all([are_integers(level) for level in value]) and sizes_fit(rule, value)


def are_ghosts(leaves, value):
    """Whether a value may be the ghosts of leaves of these sizes."""
    if not are_integers(value) or not is_ascending(value):
        return False
    if not all([1 <= leaf < len(leaves) for leaf in value]):
        return False
    bare = [leaf for leaf in range(1, len(leaves)) if leaves[leaf] == 0]
    return len(set(bare) - set(value)) == 0


def shape_of(levels):
    """The shape of levels."""
    return sizes_of(levels), ghosts_of(levels)


def mirrored_sizes(sizes):
    """The sizes with each level in the opposite order."""
    return tuple([level[::-1] for level in sizes])


def pages_below(sizes, level, page):
    """The pages of the next level below a page, as (start, end), end not included."""
    if not is_index(level, len(sizes) - 1) or not is_index(page, len(sizes[level])):
        raise NoPage(level, page)
    start = sum(sizes[level][:page])
    return start, start + sizes[level][page]
