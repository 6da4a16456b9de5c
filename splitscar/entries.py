"""Entries: what the log tells of commits."""

from splitscar.deeds import is_deed
from splitscar.images import is_image
from splitscar.kinds import is_ascending, is_index, is_key
from splitscar.values import is_number

PAGE_MOST = 899


def changes_between(file, later):
    """The changes that lead from a file to a later one: the pairs (page, image) of what is other or new."""
    return tuple([
        (page, image)
        for page, image in enumerate(later)
        if page >= len(file) or file[page] != image
    ])


def new_tree_pages(file, changes):
    """The images, among changes of a file, of the pages that come to its tree."""
    return [
        image
        for page, image in changes
        if image[0] in ("leaf", "inner") and (page >= len(file) or file[page][0] not in ("leaf", "inner"))
    ]


def is_row(value):
    """Whether any value has the form of the first three items of an entry."""
    if not isinstance(value, tuple) or len(value) != 3:
        return False
    commit, deed, struck = value
    if not is_number(commit) or commit < 1 or not is_deed(deed):
        return False
    if not isinstance(struck, tuple) or not all([is_key(key) for key in struck]):
        return False
    return is_ascending(struck) and may_strike(deed, struck)


def may_strike(deed, struck):
    """Whether a deed can have struck these keys."""
    if deed[0] == "strike":
        return struck == deed[1:]
    if deed[0] == "strike range":
        return all([deed[1] <= key <= deed[2] for key in struck])
    return len(struck) == 0


def is_entry(value):
    """Whether any value has the form of an entry."""
    if not isinstance(value, tuple) or len(value) != 4 or not is_row(value[:3]):
        return False
    changes = value[3]
    if not isinstance(changes, tuple) or not all([is_change(change) for change in changes]):
        return False
    if not is_ascending([page for page, image in changes]):
        return False
    commits = [image[3] for page, image in changes if page == 1 and image[0] == "space"]
    return commits == [value[0]]


def is_change(value):
    """Whether a value is a pair of a page and an image."""
    return isinstance(value, tuple) and len(value) == 2 and is_index(value[0], PAGE_MOST + 1) and is_image(value[1])
