"""What a log with missing entries surely lacks, told by the file to which it belongs."""

from splitscar.entries import is_row
from splitscar.errors import InvalidRow, InvalidStart, NoKey, NotItsLog
from splitscar.filecheck import tree_of
from splitscar.kinds import is_key
from splitscar.levels import ghost_keys, index_below, separators_of
from splitscar.marks import gaps_between
from splitscar.rooms import checked_shape, pairs_of, rows_of_pairs
from splitscar.scans import table_of
from splitscar.strikes import pairs_above
from splitscar.values import is_table


class Missing:
    """What rows lack that are all that is left of the log of a file. It never changes.

    `start` is the table behind the last rebuild, or None if it is unknown.
    """

    def __init__(self, rule, file, rows, *, start=None):
        tree = tree_of(rule, file)
        born, commit = file[0][2], file[1][3]
        check_start(start, born)
        check_rows(rows, born, commit)
        sizes = checked_shape(tree)[0]
        numbers = missing_numbers(rows, born, commit)
        known = () if born == 0 else start
        gaps = gaps_between(known, rows, table_of(file), ghost_keys(tree.levels), born, commit + 1)
        check_gaps(gaps, numbers)
        leaf_pairs = missing_pairs(pairs_of(rule, tree.levels)[-1], separators_of(tree.levels), rows, gaps)
        pairs = pairs_above(rule, sizes, leaf_pairs)
        self._rule = rule
        self._pairs = pairs
        self._sizes = sizes
        self._numbers = numbers
        self._gaps = gaps
        self._by_key = gaps_by_key(gaps)
        self._shares = rows_of_pairs(rule, sizes, pairs)

    @property
    def rule(self):
        return self._rule

    @property
    def sizes(self):
        """The sizes of the levels of the file."""
        return self._sizes

    @property
    def leaf_pairs(self):
        """The needs and prices of the leaves for what is missing."""
        return self._pairs[-1]

    @property
    def gaps(self):
        """All gaps, ascending by key, number and word."""
        return self._gaps

    @property
    def numbers(self):
        return self._numbers

    @property
    def puts(self):
        return gaps_with(self._gaps, "put")

    @property
    def struck(self):
        return gaps_with(self._gaps, "strike")

    @property
    def least(self):
        return self._pairs[0][0][0]

    @property
    def shares(self):
        return self._shares

    def __getitem__(self, at):
        if not is_key(at) or at not in self._by_key:
            raise NoKey(at)
        return self._by_key[at]

    def __iter__(self):
        raise TypeError("missing entries are not iterated over: use numbers, puts or struck")

    def __contains__(self, x):
        return is_key(x) and x in self._by_key

    def __len__(self):
        return len(self._numbers)

    def __repr__(self):
        return f"Missing({len(self._numbers)} numbers, {len(self.puts)} puts, {len(self.struck)} strikes)"


def check_start(value, born):
    """Raises InvalidStart unless a value is None or a table with which the tree can have begun."""
    if value is not None and (not is_table(value) or (born == 0 and len(value) > 0)):
        raise InvalidStart()


def check_rows(rows, born, commit):
    """Raises InvalidRow for the first row that is none or does not fit a file with these numbers."""
    last = born
    for index, row in enumerate(rows):
        if not is_row(row) or row[1] == ("rebuild",) or not last < row[0] <= commit:
            raise InvalidRow(index)
        last = row[0]


def missing_numbers(rows, born, commit):
    """The ascending tuple of the numbers of commits behind the last rebuild that no row has."""
    told = {row[0]: True for row in rows}
    return tuple([number for number in range(born + 1, commit + 1) if number not in told])


def check_gaps(gaps, numbers):
    """Raises NotItsLog if no entry can be missing where one must be."""
    for key, _, after, before in gaps:
        at = index_below(numbers, after)
        if at == len(numbers) or numbers[at] >= before:
            raise NotItsLog(key)


def gaps_by_key(gaps):
    """For each key with a gap the tuple of its gaps without the key, by their numbers."""
    found = {key: [] for key, word, after, before in gaps}
    for key, word, after, before in gaps:
        found[key].append((word, after, before))
    return {key: tuple(found[key]) for key in found}


def gaps_with(gaps, word):
    """The tuple of the gaps with this word, without it."""
    return tuple([(key, after, before) for key, other, after, before in gaps if other == word])


def missing_pairs(pairs, between, rows, gaps):
    """The needs and prices of the leaves for the strikes that the rows do not tell."""
    told = keys_by_leaf(between, [key for row in rows for key in row[2]])
    sure = keys_by_leaf(between, [gap[0] for gap in gaps if gap[1] == "strike"])
    return tuple([lessened(pair, told[leaf], sure[leaf]) for leaf, pair in enumerate(pairs)])


def keys_by_leaf(between, keys):
    """For each leaf, with these separators between them, how many of the keys go to it."""
    counts = [0 for _ in range(len(between) + 1)]
    for key in keys:
        leaf = index_below(between, key)
        counts[leaf] = counts[leaf] + 1
    return counts


def lessened(pair, told, sure):
    """The need and the price of a leaf from which so many strikes are told, and so many others surely missing."""
    need, price = pair
    least = max(need - told, sure, 0)
    return least, None if price is None else max(price - told, least)
