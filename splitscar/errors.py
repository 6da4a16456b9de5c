"""The errors of the package. Each one keeps its arguments as attributes."""


class ScarError(ValueError):
    """The base of the errors about values that are not what they must be."""


class InvalidRule(ScarError):
    def __init__(self):
        ScarError.__init__(self, "these are not the numbers of a rule")


class InvalidKey(ScarError):
    def __init__(self, value):
        ScarError.__init__(self, "this is not a key")
        self.value = value


class InvalidTree(ScarError):
    def __init__(self):
        ScarError.__init__(self, "these are not levels of the rule")


class InvalidEvent(ScarError):
    def __init__(self, index):
        ScarError.__init__(self, "this deed of keys cannot be done")
        self.index = index


class InvalidValue(ScarError):
    def __init__(self, value):
        ScarError.__init__(self, "this is not a value of a record")
        self.value = value


class InvalidDeed(ScarError):
    def __init__(self, deed):
        ScarError.__init__(self, "this is not a deed")
        self.deed = deed


class InvalidMost(ScarError):
    def __init__(self, value):
        ScarError.__init__(self, "this is not a bound of the fewest strikes")
        self.value = value


class InvalidText(ScarError):
    def __init__(self, line, word):
        ScarError.__init__(self, "the text is wrong at this line and word")
        self.line = line
        self.word = word


class InvalidHands(ScarError):
    def __init__(self, many):
        ScarError.__init__(self, "there are too few or too many hands")
        self.many = many


class InvalidJob(ScarError):
    def __init__(self, hand, index):
        ScarError.__init__(self, "this is not a job of a hand")
        self.hand = hand
        self.index = index


class InvalidStart(ScarError):
    def __init__(self):
        ScarError.__init__(self, "this is not a table to start with")


class InvalidRow(ScarError):
    def __init__(self, index):
        ScarError.__init__(self, "this row is none or does not fit")
        self.index = index


class UnknownCommand(ScarError):
    def __init__(self):
        ScarError.__init__(self, "this is not a command")


class NotOverfull(ScarError):
    def __init__(self, many):
        ScarError.__init__(self, "a page of this length is not split")
        self.many = many


class NotGrown(ScarError):
    def __init__(self, fault):
        ScarError.__init__(self, "the levels have a fault, so they are not grown")
        self.fault = fault


class NotSound(ScarError):
    def __init__(self, page, word):
        ScarError.__init__(self, "the file has a fault at this page")
        self.page = page
        self.word = word


class NotItsLog(ScarError):
    def __init__(self, key):
        ScarError.__init__(self, "the rows cannot be of the log of the file")
        self.key = key


class Rebuilt(ScarError):
    def __init__(self, number):
        ScarError.__init__(self, "the tree was rebuilt in between")
        self.number = number


class NotLater(ScarError):
    def __init__(self, separator):
        ScarError.__init__(self, "the second file is not later than the first one")
        self.separator = separator


class NoHistory(ScarError):
    def __init__(self, fault):
        ScarError.__init__(self, "no deeds of keys lead to a tree with this fault")
        self.fault = fault


class NoRoom(ScarError):
    def __init__(self, leaf):
        ScarError.__init__(self, "too few keys go to this leaf")
        self.leaf = leaf


class TooScarred(ScarError):
    def __init__(self, strikes):
        ScarError.__init__(self, "the deed would need too many strikes")
        self.strikes = strikes


class Present(KeyError):
    def __init__(self, key):
        KeyError.__init__(self, "the key is in a leaf already")
        self.key = key


class NoKey(KeyError):
    def __init__(self, key):
        KeyError.__init__(self, "the key is not there")
        self.key = key


class NoPage(IndexError):
    def __init__(self, level, page):
        IndexError.__init__(self, "there is no such page")
        self.level = level
        self.page = page


class NoHand(IndexError):
    def __init__(self, hand):
        IndexError.__init__(self, "there is no such hand")
        self.hand = hand


class NothingToUndo(LookupError):
    def __init__(self, count):
        LookupError.__init__(self, "there are not so many deeds to take back")
        self.count = count


class NotWritten(LookupError):
    def __init__(self, page):
        LookupError.__init__(self, "this is not a written page")
        self.page = page


class TooEarly(LookupError):
    def __init__(self, number):
        LookupError.__init__(self, "the backup cannot restore a file before its end")
        self.number = number


class LogGap(LookupError):
    def __init__(self, number):
        LookupError.__init__(self, "the entry with this number is missing")
        self.number = number


class WrongStep(RuntimeError):
    def __init__(self, reason):
        RuntimeError.__init__(self, "the media cannot make this step")
        self.reason = reason


class NotRecoverable(RuntimeError):
    def __init__(self, page):
        RuntimeError.__init__(self, "the last image of this page is lost")
        self.page = page


class NotFinished(RuntimeError):
    def __init__(self, page):
        RuntimeError.__init__(self, "this page is not copied yet")
        self.page = page


class TooMany(OverflowError):
    def __init__(self, limit):
        OverflowError.__init__(self, "there are more than the limit")
        self.limit = limit


class TooLong(OverflowError):
    def __init__(self, limit):
        OverflowError.__init__(self, "the answer would be longer than the limit")
        self.limit = limit


class TooLarge(OverflowError):
    def __init__(self, limit):
        OverflowError.__init__(self, "the question is larger than the limit")
        self.limit = limit


class Full(OverflowError):
    def __init__(self, limit):
        OverflowError.__init__(self, "the store has no room beyond the limit")
        self.limit = limit
