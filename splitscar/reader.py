"""Reads the texts of levels and of files."""

from splitscar.errors import InvalidText, InvalidTree
from splitscar.levels import is_levels
from splitscar.words import lines_of, read_key, read_line

# The kinds of the words behind the first one: those at first, and those that follow over and over.
FORMS = {
    "head": (("number", "number"), ()),
    "space": (("number", "number"), ("number",)),
    "leaf": (("link",), ("key", "held")),
    "inner": (("number", "key", "number"), ("key", "number")),
    "piece": (("link", "string"), ()),
    "free": ((), ()),
}


def read_levels(rule, text):
    """The levels of a text."""
    levels = tuple([read_level(line, words) for line, words in enumerate(lines_of(text))])
    if not is_levels(rule, levels):
        raise InvalidTree()
    return levels


def read_level(line, words):
    """The pages of a line, between which "|" stands."""
    pages = []
    start = 0
    for at in range(len(words) + 1):
        if at == len(words) or words[at] == "|":
            pages.append(read_page(line, start, words[start:at]))
            start = at + 1
    return tuple(pages)


def read_page(line, start, words):
    """The integers of a page whose words begin with the word `start` of the line."""
    if not words:
        raise InvalidText(line, start)
    if words[0] == "-":
        if len(words) > 1:
            raise InvalidText(line, start + 1)
        return ()
    integers = []
    for at, word in enumerate(words):
        found = read_key(word)
        if not found:
            raise InvalidText(line, start + at)
        integers.append(found[0])
    return tuple(integers)


def read_file(text):
    """The file of a text; it need not be sound."""
    return tuple([read_image(line, words) for line, words in enumerate(lines_of(text))])


def read_image(line, words):
    """The image of a line."""
    name = words[0]
    if name not in FORMS:
        raise InvalidText(line, 0)
    first, again = FORMS[name]
    return image_of(name, read_line(line, words, 1, first, again))


def image_of(name, told):
    """The image of what the words of a line tell."""
    if name == "space":
        return ("space", told[0], tuple(told[2:]), told[1])
    if name == "leaf":
        return ("leaf", tuple([(told[at], told[at + 1]) for at in range(1, len(told), 2)]), told[0])
    if name == "inner":
        return ("inner", tuple(told[1::2]), tuple(told[0::2]))
    if name == "piece":
        return ("piece", told[1], told[0])
    return (name, *told)
