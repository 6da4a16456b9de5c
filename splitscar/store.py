"""Stores: files that deeds change."""

from splitscar.commits import applied, entry_of
from splitscar.entries import new_tree_pages
from splitscar.errors import InvalidKey, InvalidMost, InvalidValue, NoKey, TooScarred
from splitscar.images import empty_file, levels_of
from splitscar.kinds import is_index, is_key
from splitscar.levels import keys_of
from splitscar.rooms import fewest_of
from splitscar.scans import keys_between, records_in, table_of, value_of
from splitscar.values import is_value

MOST_STRIKES = 300


def check_key(value):
    """Raises InvalidKey unless a value is a key."""
    if not is_key(value):
        raise InvalidKey(value)


def store_text(name, file):
    """What `repr` tells of a store whose class has this name."""
    return f"{name}({len(keys_of(levels_of(file)))} records, {len(file)} pages)"


class Kept:
    """A state of a store to which it goes back, and the one that is kept behind it."""

    def __init__(self, state, outer):
        self.state = state
        self.outer = outer


class Trial:
    """Takes back, behind the suite of a `with`, all that was done to a store in it."""

    def __init__(self, store):
        self._store = store
        self._kept = None

    def __enter__(self):
        self._kept = Kept(self._store._state, self._kept)
        return self._store

    def __exit__(self, kind, value, trace):
        self._store._state = self._kept.state
        self._kept = self._kept.outer


class Store:
    """A store with a file, at first the empty one.

    The state is a dict that is never changed, only replaced, so that a twin may
    share it and a trial may go back to it. Classes below this one add to it.
    """

    MOST_RECORDS = 300
    MOST_TREE = 400
    MOST_PAGES = 900

    def __init__(self, rule):
        self._rule = rule
        self._state = {"file": empty_file(), "last": None}

    @classmethod
    def of(cls, rule, file):
        """A store that goes on with a sound file."""
        store = cls(rule)
        store._state = {**store._state, "file": file}
        return store

    @classmethod
    def in_state(cls, rule, state):
        """A store in the state of another one of the same class."""
        store = cls(rule)
        store._state = state
        return store

    def do(self, deed):
        """Does a deed; returns the number of its commit."""
        entry = self.checked_entry(deed)
        self._state = self.state_behind(entry)
        return entry[0]

    def checked_entry(self, deed):
        """The entry of a deed that is not refused."""
        return entry_of(self._rule, self._state["file"], deed)

    def state_behind(self, entry):
        """The state behind the commit of an entry."""
        return {**self._state, "file": applied(self._state["file"], entry), "last": entry}

    def put(self, key, value):
        """Puts a key with a value; returns the number of the commit."""
        check_key(key)
        if not is_value(value):
            raise InvalidValue(value)
        return self.do(("put", key, value))

    def strike(self, key):
        """Strikes a key; returns the number of the commit."""
        if not is_key(key):
            raise NoKey(key)
        return self.do(("strike", key))

    def strike_range(self, low, high):
        """Strikes all keys from low to high; returns the number of the commit."""
        check_key(low)
        check_key(high)
        return self.do(("strike range", low, high))

    def rebuild(self):
        """Puts the table into a new tree; returns the number of the commit."""
        return self.do(("rebuild",))

    @property
    def rule(self):
        return self._rule

    @property
    def file(self):
        return self._state["file"]

    @property
    def levels(self):
        return levels_of(self._state["file"])

    @property
    def table(self):
        return table_of(self._state["file"])

    @property
    def commit(self):
        return self._state["file"][1][3]

    @property
    def born(self):
        return self._state["file"][0][2]

    @property
    def last(self):
        return self._state["last"]

    def __getitem__(self, at):
        return value_of(self._state["file"], at)

    def __iter__(self):
        raise TypeError("a store is not iterated over: use scan() or table")

    def __contains__(self, x):
        return is_key(x) and len(keys_between(self._state["file"], x, x)) > 0

    def __len__(self):
        return len(keys_of(levels_of(self._state["file"])))

    def scan(self, *, low=None, high=None):
        """Yields the records with keys from low to high, of the file at the first request."""
        file = self._state["file"]
        for record in records_in(file, low=low, high=high):
            yield record

    def twin(self):
        """Another store of the same class in the same state."""
        return self.in_state(self._rule, self._state)

    def trial(self):
        """An object for `with`, behind whose suite the store is as before it."""
        return Trial(self)

    def tried(self, work):
        """What `work` returns for the store; behind it the store is as before."""
        with self.trial() as store:
            return work(store)

    def __eq__(self, other):
        return isinstance(other, Store) and self.rule == other.rule and self.file == other.file

    def __repr__(self):
        return str(store_text(self.__class__.__name__, self._state["file"]))


class CountingStore(Store):
    """A store that counts what was done since the last rebuild."""

    def __init__(self, rule):
        super().__init__(rule)
        self._state = {**self._state, "counts": (0, 0, 0, 0, 0)}

    def state_behind(self, entry):
        state = super().state_behind(entry)
        return {**state, "counts": counts_behind(self._state["counts"], self._state["file"], entry)}

    @property
    def puts(self):
        return self._state["counts"][0]

    @property
    def struck(self):
        return self._state["counts"][1]

    @property
    def replaced(self):
        return self._state["counts"][2]

    @property
    def splits(self):
        return self._state["counts"][3:]


def counts_behind(counts, file, entry):
    """The counts of puts, struck keys, replaced values and split leaves and pages, behind an entry."""
    _, deed, struck, changes = entry
    if deed[0] == "rebuild":
        return 0, 0, 0, 0, 0
    puts, strikes, values, leaves, pages = counts
    if deed[0] != "put":
        return puts, strikes + len(struck), values, leaves, pages
    if keys_between(file, deed[1], deed[1]):
        return puts, strikes, values + 1, leaves, pages
    names = [image[0] for image in new_tree_pages(file, changes)]
    # A new root is no page of a split; only with one does the head change.
    roots = len([page for page, _ in changes if page == 0])
    return puts + 1, strikes, values, leaves + names.count("leaf"), pages + names.count("inner") - roots


def check_most(value, fewest):
    """Raises InvalidMost unless a value is a bound of the fewest strikes, None or not below these."""
    if value is not None and (not is_index(value, MOST_STRIKES + 1) or value < fewest):
        raise InvalidMost(value)


class GuardedStore(CountingStore):
    """A store that refuses deeds behind which the fewest strikes would be above a bound."""

    def __init__(self, rule, *, most=None):
        super().__init__(rule)
        check_most(most, 0)
        self._state = {**self._state, "most": most}

    @classmethod
    def of(cls, rule, file):
        """A store that goes on with a sound file whose levels have fewest strikes."""
        store = cls(rule)
        store._state = {**store._state, "file": file}
        return store

    def checked_entry(self, deed):
        entry = super().checked_entry(deed)
        # Without a struck key the fewest strikes do not rise.
        if self._state["most"] is not None and entry[2]:
            strikes = fewest_of(self._rule, levels_of(applied(self._state["file"], entry)))
            if strikes > self._state["most"]:
                raise TooScarred(strikes)
        return entry

    @property
    def fewest(self):
        return fewest_of(self._rule, levels_of(self._state["file"]))

    @property
    def most(self):
        return self._state["most"]

    @most.setter
    def most(self, value):
        check_most(value, self.fewest)
        self._state = {**self._state, "most": value}


def assign_most(store, value):
    """Gives a guarded store another bound."""
    store.most = value
