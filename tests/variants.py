"""Values with one thing changed at any place and depth, and plain checks of images, deeds, rows and entries."""

from tests.helpers import BIG

OTHERS = [
    None, True, False, 0, 1, -1, 2, 3, 8, 9, 40, 41, 900, BIG, -BIG, BIG - 1, 10 ** 59, "", "a", "12345678", "123456789",
    "x" * 40, "x" * 41, "a%b", "a\nb", "\x7f", "\x1f", "free", "leaf", "space", "at", "torn", (), (1,), (1, 2), (2, 1),
    (1, 1), ((1, "a"),), ("at", 3, 9), ("at", 3, 8), ("at", 3, 40), ("at", 3, 41), ("at", -1, 9), ("at", True, 9),
    ["at", 3, 9], ("at", 3, 9, 1), [], [1, 2], {}, {1: 2}, ("free",), ("torn",), ["free"],
]


def variants(value, others=None):
    """Yields values like this one in which one part is another one, left out, doubled, or of another kind."""
    yield from OTHERS if others is None else others
    if isinstance(value, tuple):
        yield list(value)
        yield value + (None,)
        yield value[::-1]
        for at, part in enumerate(value):
            yield value[:at] + value[at + 1:]
            yield value[:at] + (part, part) + value[at + 1:]
            for other in variants(part, others):
                yield value[:at] + (other,) + value[at + 1:]


def is_kind(value, kind):
    return type(value) is kind


def plain_number(value):
    return is_kind(value, int) and value >= 0


def plain_key(value):
    return is_kind(value, int) and len(str(abs(value))) <= 15


def plain_text(value, least, most):
    return is_kind(value, str) and least <= len(value) <= most and all(" " <= c <= "~" and c != "%" for c in value)


def plain_rising(row):
    return list(row) == sorted(set(row))


def plain_held(value):
    if is_kind(value, tuple):
        return (len(value) == 3 and is_kind(value[0], str) and value[0] == "at" and plain_number(value[1])
                and is_kind(value[2], int) and 9 <= value[2] <= 40)
    return plain_text(value, 0, 8)


def plain_records(value, is_value):
    if not is_kind(value, tuple):
        return False
    for pair in value:
        if not is_kind(pair, tuple) or len(pair) != 2 or not plain_key(pair[0]) or not is_value(pair[1]):
            return False
    return plain_rising([key for key, _ in value])


def plain_tuple(value, is_item):
    return is_kind(value, tuple) and all(is_item(item) for item in value)


def plain_image(value):
    """Whether a value is an image, form by form."""
    if not is_kind(value, tuple) or not value or not is_kind(value[0], str):
        return False
    name, rest = value[0], value[1:]
    if name == "head":
        return len(rest) == 2 and plain_tuple(rest, plain_number)
    if name == "space":
        return (len(rest) == 3 and plain_number(rest[0]) and plain_tuple(rest[1], plain_number)
                and plain_rising(rest[1]) and plain_number(rest[2]))
    if name == "leaf":
        return len(rest) == 2 and plain_records(rest[0], plain_held) and (rest[1] is None or plain_number(rest[1]))
    if name == "inner":
        return (len(rest) == 2 and plain_tuple(rest[0], plain_key) and plain_tuple(rest[1], plain_number)
                and plain_rising(rest[0]) and len(rest[0]) >= 1 and len(rest[1]) == len(rest[0]) + 1)
    if name == "piece":
        return len(rest) == 2 and plain_text(rest[0], 1, 8) and (rest[1] is None or plain_number(rest[1]))
    return name == "free" and rest == ()


def plain_deed(value):
    """Whether a value is a deed, form by form."""
    if not is_kind(value, tuple) or not value or not is_kind(value[0], str):
        return False
    word, rest = value[0], value[1:]
    if word == "put":
        return len(rest) == 2 and plain_key(rest[0]) and plain_text(rest[1], 0, 40)
    if word == "strike":
        return len(rest) == 1 and plain_key(rest[0])
    if word == "strike range":
        return len(rest) == 2 and plain_tuple(rest, plain_key)
    return word == "rebuild" and rest == ()


def plain_row(value):
    """Whether a value has the form of a row [24]."""
    if not is_kind(value, tuple) or len(value) != 3:
        return False
    commit, deed, keys = value
    if not is_kind(commit, int) or commit < 1 or not plain_deed(deed):
        return False
    if not plain_tuple(keys, plain_key) or not plain_rising(keys):
        return False
    if deed[0] == "strike":
        return keys == (deed[1],)
    if deed[0] == "strike range":
        return all(deed[1] <= key <= deed[2] for key in keys)
    return keys == ()


def plain_entry(value):
    """Whether a value has the form of an entry."""
    if not is_kind(value, tuple) or len(value) != 4 or not plain_row(value[:3]) or not is_kind(value[3], tuple):
        return False
    for pair in value[3]:
        if not is_kind(pair, tuple) or len(pair) != 2 or not is_kind(pair[0], int) or not 0 <= pair[0] <= 899:
            return False
        if not plain_image(pair[1]):
            return False
    images = dict(value[3])
    if not plain_rising([page for page, _ in value[3]]) or images.get(1, ("none",))[0] != "space":
        return False
    return images[1][3] == value[0]
