"""The desk: answers lines about a store.

A state of the desk is a pair of a rule and of files. The last file is the present one,
the others are those before each of the earlier deeds. A state never changes.
"""

from splitscar.before import count_before
from splitscar.errors import NothingToUndo, UnknownCommand
from splitscar.evidence import Evidence
from splitscar.faults import tree_fault
from splitscar.filecheck import check_sound
from splitscar.images import empty_file, levels_of
from splitscar.later import puts_between
from splitscar.levels import ghost_keys
from splitscar.reader import read_image
from splitscar.rules import Rule
from splitscar.scans import keys_between, table_of, value_of
from splitscar.shrinking import order_of
from splitscar.store import Store
from splitscar.texts import show_file, show_levels
from splitscar.trees import known_tree
from splitscar.words import read_line, show_string

# The kinds of the words behind the first one.
FORMS = {
    "rule": ("number", "number", "number", "number"),
    "put": ("key", "string"),
    "strike": ("key",),
    "range": ("key", "key"),
    "rebuild": (),
    "undo": ("number",),
    "get": ("key",),
    "scan": ("key", "key"),
    "size": (),
    "levels": (),
    "file": (),
    "verdict": (),
    "order": (),
    "ghosts": (),
    "before": ("key",),
    "since": ("number",),
}
DEEDS = ("put", "strike", "range", "rebuild")
BREAK = " / "


class Desk:
    """Answers lines about a store, at first an empty one."""

    START = (2, 1, 2, 2)

    def __init__(self):
        self._state = (Rule(*self.START), (empty_file(),))

    def say(self, line):
        """Carries out a line; returns its answer."""
        answer, state = answered(self._state, line)
        self._state = state
        return answer

    def say_all(self, *lines):
        """Carries out lines in order, all of them or none; returns the list of their answers."""
        state = self._state
        answers = []
        for line in lines:
            answer, state = answered(state, line)
            answers.append(answer)
        self._state = state
        return answers


def answered(state, line):
    """The answer to any value as a line, and the state behind it."""
    words = words_of(line)
    name = words[0]
    if name == "open":
        return "ok", opened(state[0], line)
    told = read_line(0, words, 1, FORMS[name], ())
    if name == "rule":
        return "ok", (Rule(*told), (empty_file(),))
    if name == "undo":
        return "ok", undone(state, told[0])
    if name in DEEDS:
        return done(state, name, told)
    if name == "since":
        return since_answer(state, told[0]), state
    return question_answer(name, state[0], state[1][-1], told), state


def words_of(line):
    """The words of a line; raises UnknownCommand for any value that is none, or with too few or too many words."""
    if not isinstance(line, str):
        raise UnknownCommand()
    words = line.split(" ")
    if words[0] == "open" and len(words) > 1:
        return words
    if words[0] not in FORMS or len(words) != len(FORMS[words[0]]) + 1:
        raise UnknownCommand()
    return words


def opened(rule, line):
    """The state with the file of a line."""
    text = line.partition(" ")[2]
    rows = [[plain_word(word) for word in row.split(" ")] for row in text.split(BREAK)]
    file = tuple([read_image(number, row) for number, row in enumerate(rows)])
    check_sound(rule, file)
    return rule, (file,)


def plain_word(word):
    """A word of the text of a file. One with a newline cannot stand there, as little as an empty one."""
    return "" if "\n" in word else word


def check_count(files, count):
    """Raises NothingToUndo unless so many deeds, one at least, were done."""
    if not 1 <= count < len(files):
        raise NothingToUndo(count)


def undone(state, count):
    """The state before the last deeds, so many."""
    rule, files = state
    check_count(files, count)
    return rule, files[:-count]


def done(state, name, told):
    """The answer to a deed, and the state behind it."""
    rule, files = state
    store = Store.of(rule, files[-1])
    number = do_deed(store, name, told)
    struck = store.last[2] if name == "range" else ()
    return shown_keys((number, *struck)), (rule, files + (store.file,))


def do_deed(store, name, told):
    """Does a deed with a store; returns the number of its commit."""
    if name == "put":
        return store.put(told[0], told[1])
    if name == "strike":
        return store.strike(told[0])
    if name == "range":
        return store.strike_range(told[0], told[1])
    return store.rebuild()


def since_answer(state, count):
    """Tells what lies between the state before the last deeds, so many, and the present one."""
    rule, files = state
    check_count(files, count)
    word, told = puts_between(Evidence(rule, files[-1 - count]), Evidence(rule, files[-1]))
    return f"{word} {len(told)}" if word == "never" else f"{word} {shown_keys(told)}"


def question_answer(name, rule, file, told):
    """The answer to a question about a file."""
    if name == "get":
        return get_answer(file, told[0])
    if name == "scan":
        return scan_answer(file, told[0], told[1])
    if name == "size":
        return f"{len(table_of(file))} {len(file)} {file[1][3]}"
    if name == "file":
        return on_one_line(show_file(file))
    levels = levels_of(file)
    if name == "levels":
        return on_one_line(show_levels(levels))
    if name == "ghosts":
        return shown_keys(ghost_keys(levels))
    tree = known_tree(rule, levels)
    if name == "verdict":
        return verdict_answer(tree)
    if name == "order":
        return shown_keys(order_of(tree))
    return str(count_before(tree, told[0]))


def get_answer(file, key):
    """The value of a key, or "-"."""
    return show_string(value_of(file, key)) if keys_between(file, key, key) else "-"


def scan_answer(file, low, high):
    """The records with keys from low to high, or "-"."""
    records = [(key, value) for key, value in table_of(file) if low <= key <= high]
    return " ".join([f"{key} {show_string(value)}" for key, value in records]) if records else "-"


def verdict_answer(tree):
    """Whether a tree is grown, or its first fault."""
    fault = tree_fault(tree)
    return "grown" if fault is None else f"struck {fault[0]} {fault[1]} {fault[2]}"


def shown_keys(keys):
    """Keys as words, or "-" for none."""
    return " ".join([str(key) for key in keys]) if keys else "-"


def on_one_line(text):
    """A text of several lines on one line."""
    return text.replace("\n", BREAK)
