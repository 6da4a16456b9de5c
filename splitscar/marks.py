"""Marks: what rows, a start and a file tell of single keys, and the gaps between them."""

from splitscar.levels import index_below


class Mark:
    """What is told of a key at the number of a commit: whether it was there before, and its value afterwards.

    `was` is None if it is not told. `value` is None if the key is absent.
    """

    def __init__(self, number, was, value):
        self.number = number
        self.was = was
        self.value = value

    def is_present(self):
        """Whether it is told that the key was or is there."""
        return self.was is True or self.value is not None


def gaps_between(start, rows, table, ghosts, born, end):
    """All gaps of keys, ascending by key, number and word.

    `start` is the table behind the commit `born`, or None if it is unknown, and
    `end` the number behind that of the last commit, at which the table is that of the file.
    """
    marks = marks_of(start, rows, table, ghosts, born, end)
    gaps = []
    for key in marks:
        for first, second in zip(marks[key], marks[key][1:]):
            word = word_between(first, second, end)
            if word is not None:
                gaps.append((key, first.number, word, second.number))
    for key in ghosts:
        if not any([mark.is_present() for mark in marks[key]]):
            gaps.append((key, born, "strike", end))
            if start is not None:
                gaps.append((key, born, "put", end))
    return tuple([(key, word, after, before) for key, after, word, before in sorted(gaps)])


def marks_of(start, rows, table, ghosts, born, end):
    """For each key that is told of, ascending, the list of its marks by their numbers."""
    keys = keys_told(start, rows, table, ghosts)
    marks = {key: [] for key in keys}
    if start is not None:
        values = {key: value for key, value in start}
        for key in keys:
            marks[key].append(Mark(born, None, values.get(key)))
    for number, deed, struck in rows:
        if deed[0] == "put":
            marks[deed[1]].append(Mark(number, None, deed[2]))
        else:
            gone = {key: True for key in struck}
            for key in keys[index_below(keys, deed[1] - 1):index_below(keys, deed[-1])]:
                marks[key].append(Mark(number, key in gone, None))
    values = {key: value for key, value in table}
    for key in keys:
        marks[key].append(Mark(end, key in values, values.get(key)))
    return marks


def keys_told(start, rows, table, ghosts):
    """The ascending list of all keys that are told of; others never were there as far as is told."""
    found = [key for key, value in table] + list(ghosts)
    if start is not None:
        found.extend([key for key, value in start])
    for _, deed, struck in rows:
        found.extend(struck)
        if deed[0] == "put":
            found.append(deed[1])
    return sorted(set(found))


def word_between(first, second, end):
    """The word of the gap between two neighbouring marks of a key, or None."""
    if first.value is None:
        return "put" if second.was is True else None
    if second.was is False:
        return "strike"
    return "put" if second.number == end and second.value != first.value else None
