"""Holds the rows of hands against a plain table, without pages."""

from splitscar.deeds import is_deed
from splitscar.hands import is_question
from splitscar.kinds import is_ascending, is_index, is_key
from splitscar.values import is_number, are_records, is_value

MOST_HANDS = 4
LENGTHS = {"take": 3, "wait": 3, "idle": 2, "read": 4, "told": 4, "commit": 5, "refused": 4}
REFUSALS = ("NoKey", "Full", "TooScarred")


def is_turn(value):
    """Whether any value is the row of a turn."""
    if not isinstance(value, tuple) or not value or not isinstance(value[0], str):
        return False
    word = value[0]
    if len(value) != LENGTHS.get(word) or not is_index(value[1], MOST_HANDS):
        return False
    if word == "take":
        return is_number(value[2])
    if word == "wait":
        return value[2] is None or is_number(value[2])
    if word == "read":
        return is_question(value[2]) and value[2][0] == "scan" and are_records(value[3])
    if word == "told":
        return is_question(value[2]) and is_answer(value[2], value[3])
    if word == "commit":
        return is_deed(value[2]) and is_number(value[3]) and value[3] > 0 and are_keys(value[4])
    return word == "idle" or (is_deed(value[2]) and value[3] in REFUSALS)


def is_answer(job, value):
    """Whether a value is an answer of the kind that a question is told."""
    if job[0] == "get":
        return value is None or is_value(value)
    return are_records(value)


def are_keys(value):
    """Whether a value is a tuple of keys, in any order."""
    return isinstance(value, tuple) and all([is_key(key) for key in value])


class Reads:
    """What a hand has read for a scan since its last job.

    `lasting` has the keys from low to high that the table had all the time since the first read.
    """

    def __init__(self, asked, lasting):
        self.asked = asked
        self.pairs = ()
        self.lasting = lasting


class Course:
    """The table, the number of the last commit and the reads of the hands, behind some rows."""

    def __init__(self, records):
        self._values = {key: value for key, value in records}
        self._number = None
        self._reads = {hand: None for hand in range(MOST_HANDS)}

    def records(self):
        """The table."""
        return tuple([(key, self._values[key]) for key in sorted(self._values)])

    def keys_from(self, low, high):
        """The ascending tuple of the keys of the table from low to high."""
        return tuple([key for key in sorted(self._values) if low <= key <= high])

    def word_against(self, row):
        """The first word that applies to a row, or None if it fits."""
        name = row[0]
        if name in ("take", "wait", "idle"):
            return None
        hand, job, told = row[1:4]
        if name == "read":
            return None if self.read_fits(hand, job, told) else "read"
        if name == "commit" and self._number is not None and told != self._number + 1:
            return "number"
        if name == "commit" and not self.struck_fit(job, row[4]):
            return "struck"
        if name == "refused" and not self.refusal_fits(job, told):
            return "refused"
        if job[0] == "get" and told != self._values.get(job[1]):
            return "get"
        return None if self.end_fits(hand, job, told) else "scan"

    def read_fits(self, hand, asked, pairs):
        """Whether a hand can have read these pairs for a scan behind its reads."""
        reads = self._reads[hand]
        if reads is not None and reads.asked != asked:
            return False
        earlier = () if reads is None else reads.pairs
        if not is_ascending([key for key, value in earlier[-1:] + pairs]):
            return False
        return all([asked[1] <= key <= asked[2] and self._values.get(key) == value for key, value in pairs])

    def struck_fit(self, deed, struck):
        """Whether a commit strikes just these keys."""
        if deed[0] not in ("strike", "strike range"):
            return len(struck) == 0
        return struck == self.keys_from(deed[1], deed[-1]) and (deed[0] != "strike" or len(struck) == 1)

    def refusal_fits(self, deed, word):
        """Whether a deed can be refused by an error of this name."""
        if word == "Full":
            return deed[0] in ("put", "rebuild")
        if deed[0] == "strike":
            return (deed[1] in self._values) == (word == "TooScarred")
        return deed[0] == "strike range" and word == "TooScarred"

    def end_fits(self, hand, job, told):
        """Whether a job can end so behind the reads of its hand."""
        reads = self._reads[hand]
        if job[0] != "scan":
            return reads is None
        if reads is None or reads.asked != job or reads.pairs != told:
            return False
        keys = {key: True for key, value in told}
        return all([key in keys for key in reads.lasting])

    def follow(self, row):
        """Goes on behind a row that fits."""
        name = row[0]
        if name == "read":
            self.follow_read(row[1], row[2], row[3])
        if name == "commit":
            self.follow_commit(row[2], row[3], row[4])
        if name in ("told", "commit", "refused"):
            self._reads[row[1]] = None

    def follow_read(self, hand, asked, pairs):
        """Goes on behind a read row."""
        if self._reads[hand] is None:
            self._reads[hand] = Reads(asked, self.keys_from(asked[1], asked[2]))
        reads = self._reads[hand]
        reads.pairs = reads.pairs + pairs

    def follow_commit(self, deed, number, struck):
        """Goes on behind a commit row."""
        self._number = number
        self._values = {key: value for key, value in self._values.items() if key not in struck}
        if deed[0] == "put":
            self._values[deed[1]] = deed[2]
        for hand in range(MOST_HANDS):
            reads = self._reads[hand]
            if reads is not None:
                reads.lasting = tuple([key for key in reads.lasting if key not in struck])


def serial_fault(records, rows):
    """The first row of any value that does not fit, as (index, word), or None if all do."""
    if not isinstance(rows, tuple):
        return None, "form"
    course = Course(records)
    for index, row in enumerate(rows):
        word = course.word_against(row) if is_turn(row) else "form"
        if word is not None:
            return index, word
        course.follow(row)
    return None


def table_after(records, rows):
    """The table behind rows that fit."""
    course = Course(records)
    for row in rows:
        course.follow(row)
    return course.records()


def is_serial(records, rows):
    """Whether any value is a tuple of rows that all fit."""
    return serial_fault(records, rows) is None
