"""Images: what the pages of a file hold."""

from splitscar.kinds import is_ascending, is_key
from splitscar.levels import index_below
from splitscar.values import SHORT_MOST, is_held, is_number, is_text


LENGTHS = {"head": 3, "space": 4, "leaf": 3, "inner": 3, "piece": 3, "free": 1}


def is_image(value):
    """Whether any value has the form of an image."""
    if not isinstance(value, tuple) or not value or not isinstance(value[0], str):
        return False
    name = value[0]
    if len(value) != LENGTHS.get(name):
        return False
    if name == "head":
        return are_numbers(value[1:])
    if name == "space":
        return are_numbers((value[1], value[3])) and are_numbers(value[2]) and is_ascending(value[2])
    if name == "leaf":
        return are_held_records(value[1]) and is_link(value[2])
    if name == "inner":
        return are_separators(value[1]) and are_numbers(value[2]) and len(value[2]) == len(value[1]) + 1
    if name == "piece":
        return is_text(value[1], 1, SHORT_MOST) and is_link(value[2])
    return name == "free"


def are_held_records(value):
    """Whether a value is a tuple of pairs of a key and a held value, with ascending keys."""
    if not isinstance(value, tuple) or not all([is_held_record(record) for record in value]):
        return False
    return is_ascending([key for key, held in value])


def is_held_record(value):
    """Whether a value is a pair of a key and a held value."""
    return isinstance(value, tuple) and len(value) == 2 and is_key(value[0]) and is_held(value[1])


def are_separators(value):
    """Whether a value is an ascending tuple of one or more keys."""
    if not isinstance(value, tuple) or not all([is_key(separator) for separator in value]):
        return False
    return len(value) > 0 and is_ascending(value)


def are_numbers(value):
    """Whether a value is a tuple of integers from 0 on."""
    return isinstance(value, tuple) and all([is_number(item) for item in value])


def is_link(value):
    """Whether a value is the number of a page, or None."""
    return value is None or is_number(value)


def empty_file():
    """The file of an empty table."""
    return (("head", 2, 0), ("space", 3, (), 0), ("leaf", (), None))


def page_rows(file):
    """The numbers of the pages of the tree in the file: a list for each level, from the root, from left to right."""
    rows = [[file[0][1]]]
    while file[rows[-1][0]][0] == "inner":
        rows.append([lower for page in rows[-1] for lower in file[page][2]])
    return rows


def levels_of(file):
    """The levels of the tree of a sound file."""
    rows = page_rows(file)
    upper = [tuple([file[page][1] for page in row]) for row in rows[:-1]]
    leaves = [tuple([key for key, held in file[page][1]]) for page in rows[-1]]
    return (*upper, tuple(leaves))


def tree_pages(file):
    """Yields (level, page, number) for each page of the tree, with its number in the file, level by level."""
    for level, row in enumerate(page_rows(file)):
        for page, number in enumerate(row):
            yield level, page, number


def path_to(file, key):
    """The pages from the root to the leaf to which a key goes."""
    path = [file[0][1]]
    while file[path[-1]][0] == "inner":
        separators, lower = file[path[-1]][1:]
        path.append(lower[index_below(separators, key)])
    return tuple(path)
