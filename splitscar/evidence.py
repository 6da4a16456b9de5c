"""Evidence: what a file shows of the past of its index."""

from splitscar.errors import NoHistory, NoRoom
from splitscar.faults import shows_fault, tree_fault
from splitscar.filecheck import tree_of
from splitscar.leads import leads, shows_grown
from splitscar.levels import ghost_keys
from splitscar.ordercheck import shows_order
from splitscar.roomcheck import shows_strikes
from splitscar.rooms import fewest_strikes, least_deeds, strike_rows, surely_struck
from splitscar.scans import table_of
from splitscar.shapes import shape_of
from splitscar.shrinking import order_of


class Evidence:
    """What a sound file shows. It never changes."""

    def __init__(self, rule, file):
        self._tree = tree_of(rule, file)
        self._table = table_of(file)
        self._born = file[0][2]
        self._commit = file[1][3]
        self._ghosts = ghost_keys(self._tree.levels)
        self._fewest = fewest_strikes(self._tree)
        self._struck_keys = None if self._fewest is None else surely_struck(self._tree)

    @classmethod
    def of(cls, store):
        """The evidence of the present file of a store."""
        return cls(store.rule, store.file)

    @property
    def rule(self):
        return self._tree.rule

    @property
    def tree(self):
        return self._tree

    @property
    def levels(self):
        return self._tree.levels

    @property
    def shape(self):
        return shape_of(self._tree.levels)

    @property
    def table(self):
        return self._table

    @property
    def born(self):
        return self._born

    @property
    def commit(self):
        return self._commit

    @property
    def ghosts(self):
        return self._ghosts

    @property
    def fewest(self):
        return self._fewest

    @property
    def struck_keys(self):
        return self._struck_keys

    def verdict(self):
        """("grown", order), or ("struck", fault, fewest) with the first fault."""
        fault = tree_fault(self._tree)
        if fault is None:
            return "grown", order_of(self._tree)
        return "struck", fault, self._fewest

    def paper(self):
        """What shows that the levels are grown, how many strikes they have, or that no deeds of keys lead to them."""
        if tree_fault(self._tree) is not None:
            return strikes_paper(self._tree)
        return "grown", leads(self._tree.rule, shape_of(self._tree.levels))

    def shows(self, value):
        """Whether any value shows something of the levels."""
        return shows_something(self._tree, value)

    def __eq__(self, other):
        if not isinstance(other, Evidence):
            return False
        return self._tree == other._tree and self._table == other._table and self._born == other._born

    def __len__(self):
        return len(self._table)

    def __repr__(self):
        return f"Evidence({len(self._table)} records, {len(self._ghosts)} ghosts)"


def strikes_paper(tree):
    """The paper about a tree with a fault."""
    try:
        rows = strike_rows(tree)
    except NoRoom as error:
        return "room", error.leaf
    except NoHistory as error:
        return "fault", error.fault
    return "fewest", least_deeds(tree), rows


def shows_something(tree, value):
    """Whether any value is an order or a table that shows that a tree is grown, a fault, or shows its strikes."""
    if isinstance(value, tuple) and len(value) == 2 and isinstance(value[0], str):
        word, told = value
        if word == "order":
            return shows_order(tree, told)
        if word == "grown":
            return shows_grown(tree.rule, shape_of(tree.levels), told)
        if word == "ungrown":
            return shows_fault(tree.rule, shape_of(tree.levels), told)
    return shows_strikes(tree, value)
