"""The words of texts: how lines are taken apart, and what single words tell.

A function that reads a word returns a tuple with what the word tells, or ()
if the word is not written so, since a word may also tell None.
"""

from splitscar.errors import InvalidText

MOST_DIGITS = 15


def lines_of(text):
    """The lines of a text, each as the list of its words."""
    if not isinstance(text, str):
        raise InvalidText(0, 0)
    return [line.split(" ") for line in text.split("\n")]


def read_line(line, words, start, first, again):
    """What the words of a line tell, from the word `start` on.

    Their kinds are those of `first` and then, over and over, those of `again`.
    """
    told = []
    for at in range(start, len(words)):
        found = read_word(kind_at(first, again, at - start), words[at])
        if not found:
            raise InvalidText(line, at)
        told.append(found[0])
    if not is_whole(first, again, len(told)):
        raise InvalidText(line, len(words))
    return told


def kind_at(first, again, place):
    """The kind of the word at a place of a line, or None behind its end."""
    if place < len(first):
        return first[place]
    if not again:
        return None
    return again[(place - len(first)) % len(again)]


def is_whole(first, again, many):
    """Whether a line may end after so many words."""
    rest = many - len(first)
    if not again:
        return rest == 0
    return rest >= 0 and rest % len(again) == 0


def read_word(kind, word):
    """Reads a word of the kind "number", "key", "link", "string" or "held"."""
    if kind == "number":
        return read_number(word)
    if kind == "key":
        return read_key(word)
    if kind == "link":
        return (None,) if word == "-" else read_number(word)
    if kind == "string":
        return read_string(word)
    if kind == "held":
        return read_at(word) if word.startswith("@") else read_string(word)
    return ()


def read_number(word):
    """Reads an integer without a sign."""
    # The length comes first: Python refuses to convert very many digits.
    if len(word) > MOST_DIGITS or not word.isascii() or not word.isdigit():
        return ()
    if word[0] == "0" and word != "0":
        return ()
    return (int(word),)


def read_key(word):
    """Reads an integer that may be negative."""
    if not word.startswith("-"):
        return read_number(word)
    found = read_number(word[1:])
    if not found or found[0] == 0:
        return ()
    return (-found[0],)


def read_string(word):
    """Reads a string, with "~_" for a space and "~~" for a "~"."""
    if not word.startswith("="):
        return ()
    pieces = [piece.replace("~_", " ") for piece in word[1:].split("~~")]
    if any(["~" in piece for piece in pieces]):
        return ()
    return ("~".join(pieces),)


def read_at(word):
    """Reads "@PAGE:LENGTH", the place of a long value."""
    page, _, length = word[1:].partition(":")
    first = read_number(page)
    many = read_number(length)
    if not first or not many:
        return ()
    return (("at", first[0], many[0]),)


def show_string(string):
    """The word of a string."""
    shown = string.replace("~", "~~").replace(" ", "~_")
    return f"={shown}"
