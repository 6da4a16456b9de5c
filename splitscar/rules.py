"""The rule by which full pages are split."""

from splitscar.errors import InvalidRule, InvalidText, NotOverfull
from splitscar.kinds import are_integers
from splitscar.words import lines_of, read_line


def has_sides(numbers):
    """Whether the numbers do not keep leaves to one side and pages to the other."""
    leaf_left, leaf_right, page_left, page_right = numbers
    to_left = leaf_left >= leaf_right and page_left >= page_right
    to_right = leaf_left <= leaf_right and page_left <= page_right
    return to_left or to_right


class Rule:
    """How many records or pages stay, and how many go to the new page of a split."""

    MOST = 16

    def __init__(self, leaf_left, leaf_right, page_left, page_right):
        numbers = (leaf_left, leaf_right, page_left, page_right)
        if not are_integers(numbers):
            raise InvalidRule()
        if min(leaf_left, leaf_right) < 1 or min(page_left, page_right) < 2:
            raise InvalidRule()
        if max(leaf_left + leaf_right, page_left + page_right) - 1 > self.MOST:
            raise InvalidRule()
        if not has_sides(numbers):
            raise InvalidRule()
        self._numbers = numbers

    @property
    def leaf_left(self):
        return self._numbers[0]

    @property
    def leaf_right(self):
        return self._numbers[1]

    @property
    def page_left(self):
        return self._numbers[2]

    @property
    def page_right(self):
        return self._numbers[3]

    @property
    def leaf_most(self):
        return self.leaf_left + self.leaf_right - 1

    @property
    def page_most(self):
        return self.page_left + self.page_right - 1

    @property
    def leaf_long(self):
        return max(self.leaf_left, self.leaf_right)

    @property
    def leaf_short(self):
        return min(self.leaf_left, self.leaf_right)

    @property
    def page_long(self):
        return max(self.page_left, self.page_right)

    @property
    def page_short(self):
        return min(self.page_left, self.page_right)

    @property
    def keeps_left(self):
        return self.leaf_left >= self.leaf_right and self.page_left >= self.page_right

    def __call__(self, keys):
        """Splits the keys of an overfull leaf into (left, right)."""
        return self.leaf_parts(keys)

    def leaf_parts(self, keys):
        """Does what a call of the rule does; operators may not call an object."""
        if len(keys) != self.leaf_most + 1:
            raise NotOverfull(len(keys))
        return keys[:self.leaf_left], keys[self.leaf_left:]

    def parts(self, separators):
        """Splits the separators of an overfull page into (left, up, right)."""
        if len(separators) != self.page_most:
            raise NotOverfull(len(separators))
        middle = self.page_left - 1
        return separators[:middle], separators[middle], separators[middle + 1:]

    def mirrored(self):
        """The rule with left and right exchanged."""
        return Rule(self.leaf_right, self.leaf_left, self.page_right, self.page_left)

    @classmethod
    def read(cls, text):
        """The rule of a text of four numbers."""
        lines = lines_of(text)
        told = read_line(0, lines[0], 0, ("number", "number", "number", "number"), ())
        if len(lines) > 1:
            raise InvalidText(1, 0)
        leaf_left, leaf_right, page_left, page_right = told
        return cls(leaf_left, leaf_right, page_left, page_right)

    def __eq__(self, other):
        return isinstance(other, Rule) and self._numbers == other._numbers

    def __str__(self):
        return " ".join([str(number) for number in self._numbers])

    def __repr__(self):
        return f"Rule({self.leaf_left}, {self.leaf_right}, {self.page_left}, {self.page_right})"
