"""Values of records, and how a file holds them: short ones as themselves, longer ones in pieces."""

from splitscar.kinds import is_ascending, is_index, is_integer, is_key

SHORT_MOST = 8
VALUE_MOST = 40
PERCENT = 37


def is_value(value):
    """Whether any value is a value of a record."""
    return is_text(value, 0, VALUE_MOST)


def are_records(value):
    """Whether any value is a tuple of records, in any order."""
    return isinstance(value, tuple) and all([is_record(record) for record in value])


def is_record(value):
    """Whether a value is a pair of a key and a value."""
    return isinstance(value, tuple) and len(value) == 2 and is_key(value[0]) and is_value(value[1])


def is_table(value):
    """Whether any value is a table."""
    return are_records(value) and is_ascending([key for key, text in value])


def is_text(value, least, most):
    """Whether a value is a string of so many of the characters that a value may have."""
    if not isinstance(value, str) or not least <= len(value) <= most:
        return False
    return all([32 <= ord(char) <= 126 and ord(char) != PERCENT for char in value])


def is_held(value):
    """Whether a value has the form in which a record holds its value."""
    if isinstance(value, str):
        return is_text(value, 0, SHORT_MOST)
    if not isinstance(value, tuple) or len(value) != 3:
        return False
    word, page, length = value
    return word == "at" and is_number(page) and is_index(length, VALUE_MOST + 1) and length > SHORT_MOST


def is_number(value):
    """Whether a value is an integer from 0 on, as pages and commits have."""
    return is_integer(value) and value >= 0


def parts_of(value):
    """The parts of a long value, of which each piece has one."""
    return [value[at:at + SHORT_MOST] for at in range(0, len(value), SHORT_MOST)]


def held_pages(file, held):
    """The list of the pages of the pieces of a held value, the first one first."""
    found = []
    page = None if isinstance(held, str) else held[1]
    while page is not None:
        found.append(page)
        page = file[page][2]
    return found


def held_value(file, held):
    """The value that a record holds."""
    if isinstance(held, str):
        return held
    return "".join([file[page][1] for page in held_pages(file, held)])
