"""A plain model of what fits a table without pages, word by word, each from the rows before it."""

from tests.hand_models import plain_question
from tests.variants import is_kind, plain_deed, plain_key, plain_number, plain_text, plain_tuple


def plain_pairs(value):
    return plain_tuple(value, lambda pair: is_kind(pair, tuple) and len(pair) == 2 and plain_key(pair[0])
                       and plain_text(pair[1], 0, 40))


def plain_turn(row):
    """Whether a value is the row of a turn, form by form."""
    if not is_kind(row, tuple) or len(row) < 2 or not is_kind(row[0], str) or not is_kind(row[1], int):
        return False
    if not 0 <= row[1] <= 3:
        return False
    name, rest = row[0], row[2:]
    if name == "idle":
        return rest == ()
    if name == "take":
        return len(rest) == 1 and plain_number(rest[0])
    if name == "wait":
        return len(rest) == 1 and (rest[0] is None or plain_number(rest[0]))
    if name == "read":
        return len(rest) == 2 and plain_question(rest[0]) and rest[0][0] == "scan" and plain_pairs(rest[1])
    if name == "told":
        if len(rest) != 2 or not plain_question(rest[0]):
            return False
        if rest[0][0] == "get":
            return rest[1] is None or plain_text(rest[1], 0, 40)
        return plain_pairs(rest[1])
    if name == "commit":
        return (len(rest) == 3 and plain_deed(rest[0]) and plain_number(rest[1]) and rest[1] != 0
                and plain_tuple(rest[2], plain_key))
    return (name == "refused" and len(rest) == 2 and plain_deed(rest[0]) and is_kind(rest[1], str)
            and rest[1] in ["NoKey", "Full", "TooScarred"])


def next_table(table, row):
    if row[0] != "commit":
        return table
    table = {key: value for key, value in table.items() if key not in row[4]}
    if row[2][0] == "put":
        table[row[2][1]] = row[2][2]
    return table


def reads_before(rows, index):
    """The indexes of the reads of the hand of a row."""
    found = []
    for at in range(index):
        if rows[at][1] == rows[index][1]:
            if rows[at][0] == "read":
                found.append(at)
            if rows[at][0] in ("told", "commit", "refused"):
                found = []
    return found


def struck_by(table, deed):
    if deed[0] == "strike":
        return tuple(key for key in table if key == deed[1])
    if deed[0] == "strike range":
        return tuple(sorted(key for key in table if deed[1] <= key <= deed[2]))
    return ()


def first_word(tables, rows, index):
    row, table = rows[index], tables[index]
    if not plain_turn(row):
        return "form"
    name = row[0]
    reads = reads_before(rows, index)
    earlier = [pair for at in reads for pair in rows[at][3]]
    if name == "commit":
        numbers = [other[3] for other in rows[:index] if other[0] == "commit"]
        if numbers and row[3] != numbers[-1] + 1:
            return "number"
        if row[4] != struck_by(table, row[2]) or row[2][0] == "strike" and row[2][1] not in table:
            return "struck"
    if name == "refused" and not refused_rightly(table, row[2], row[3]):
        return "refused"
    if name == "told" and row[2][0] == "get" and row[3] != table.get(row[2][1]):
        return "get"
    if name == "read":
        pairs = earlier + list(row[3])
        if reads and rows[reads[0]][2] != row[2]:
            return "read"
        if any(table.get(key) != value or not row[2][1] <= key <= row[2][2] for key, value in row[3]):
            return "read"
        if any(low[0] >= high[0] for low, high in zip(pairs, pairs[1:])):
            return "read"
    if name in ("told", "commit", "refused") and reads and rows[reads[0]][2] != row[2]:
        return "scan"
    if name == "told" and row[2][0] == "scan":
        if not reads or list(row[3]) != earlier:
            return "scan"
        for key in range(row[2][1], row[2][2] + 1):
            if all(key in tables[at] for at in range(reads[0], index + 1)) and key not in dict(earlier):
                return "scan"
    return None


def refused_rightly(table, deed, word):
    if word == "NoKey":
        return deed[0] == "strike" and deed[1] not in table
    if word == "Full":
        return deed[0] in ("put", "rebuild")
    return deed[0] == "strike range" or deed[0] == "strike" and deed[1] in table


def model_serial_fault(records, rows):
    if not is_kind(rows, tuple):
        return (None, "form")
    tables = [dict(records)]
    for index, row in enumerate(rows):
        word = first_word(tables, rows, index)
        if word is not None:
            return (index, word)
        tables.append(next_table(tables[-1], row))
    return None
