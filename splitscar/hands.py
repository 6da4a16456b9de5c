"""Hands: several that work on one store at the same time, with latches on the pages that they look at."""

from splitscar.deeds import is_deed
from splitscar.errors import Full, InvalidHands, InvalidJob, NoHand, NoKey, TooScarred
from splitscar.kinds import is_index, is_key
from splitscar.levels import index_below
from splitscar.scans import held_between
from splitscar.values import held_value

QUESTIONS = {"get": 2, "scan": 3}


def is_job(value):
    """Whether any value is a job."""
    return is_deed(value) or is_question(value)


def is_question(value):
    """Whether any value is a question."""
    if not isinstance(value, tuple) or not value or not isinstance(value[0], str):
        return False
    return len(value) == QUESTIONS.get(value[0]) and all([is_key(key) for key in value[1:]])


def is_alone(job):
    """Whether a job takes its pages alone."""
    return job[0] not in QUESTIONS


class Worker:
    """A hand: its jobs, the pages that it holds, and what its present job, a scan, has read.

    `ends` are the last rows of its ended jobs, and `pairs` all pairs of the
    scan. `has_read` tells whether the leaf that it holds was read.
    """

    def __init__(self, jobs):
        self.jobs = jobs
        self.ends = []
        self.latched = []
        self.pairs = ()
        self.has_read = False

    def present(self):
        """The present job, or None."""
        return self.jobs[len(self.ends)] if len(self.ends) < len(self.jobs) else None

    def wanted_page(self, file):
        """The page that the present job wants, or None if it wants none."""
        job = self.present()
        if job is None:
            return None
        if not self.latched:
            return 0
        if job[0] == "rebuild":
            return None
        image = file[self.latched[-1]]
        if image[0] == "head":
            return image[1]
        if image[0] == "inner":
            return image[2][index_below(image[1], job[1])]
        if job[0] == "strike range" or self.has_read:
            return leaf_behind(image, job[2])
        return None

    def is_hindered(self, other, page):
        """Whether the present job waits because of another hand; the page is the one that it wants."""
        if page is not None:
            return page in other.latched and (is_alone(self.present()) or is_alone(other.present()))
        # A rebuild with page 0 waits until nobody holds a page.
        return self.present() == ("rebuild",) and len(other.latched) > 0

    def take_page(self, rule, file, page):
        """Takes a page, and lets go those that the job does not keep."""
        self.latched = self.kept_pages(rule, file, page) + [page]
        self.has_read = False

    def kept_pages(self, rule, file, page):
        """The pages that are held when a page is taken and that are kept then."""
        word, image = self.present()[0], file[page]
        if word == "put" and can_be_split(rule, image):
            return self.latched
        if word == "strike range":
            return [other for other in self.latched if file[other][0] == "leaf"]
        return []

    def keep_pairs(self, pairs):
        """Keeps the pairs that a scan read in the leaf that it holds."""
        self.pairs = self.pairs + pairs
        self.has_read = True

    def finish_job(self, row):
        """Ends the present job with its last row, and lets go all pages."""
        self.ends.append(row)
        self.latched = []
        self.pairs = ()
        self.has_read = False


def leaf_behind(image, high):
    """The page of the leaf to the right, or None if there is none or a key of this one is greater than `high`."""
    records, right = image[1:]
    return None if records and records[-1][0] > high else right


def can_be_split(rule, image):
    """Whether a put below a page can split it."""
    if image[0] == "leaf":
        return len(image[1]) == rule.leaf_most
    return image[0] == "inner" and len(image[2]) == rule.page_most


def pairs_in(file, page, low, high):
    """The records of a leaf with keys from low to high."""
    return tuple([(key, held_value(file, held)) for key, held in file[page][1] if low <= key <= high])


def value_at(file, key):
    """The value of a key, or None."""
    found = held_between(file, key, key)
    return held_value(file, found[0][1]) if found else None


class Crew:
    """Hands that make turns, one at a time, in an order that the caller chooses."""

    MOST_HANDS = 4
    MOST_JOBS = 12

    def __init__(self, store, *hands):
        if not 1 <= len(hands) <= self.MOST_HANDS:
            raise InvalidHands(len(hands))
        for hand, jobs in enumerate(hands):
            if not isinstance(jobs, (tuple, list)) or len(jobs) > self.MOST_JOBS:
                raise InvalidJob(hand, None)
            for index, job in enumerate(jobs):
                if not is_job(job):
                    raise InvalidJob(hand, index)
        self._store = store
        self._workers = [Worker(tuple(jobs)) for jobs in hands]
        self._rows = []

    @property
    def store(self):
        return self._store

    @property
    def rows(self):
        return tuple(self._rows)

    @property
    def is_done(self):
        return all([worker.present() is None for worker in self._workers])

    @property
    def ready(self):
        return tuple([hand for hand in range(len(self._workers)) if self.can_go(hand)])

    def can_go(self, hand):
        """Whether a hand has a job and would not wait in its next turn."""
        return self.job(hand) is not None and not self.blockers(hand)

    def worker_of(self, hand):
        """The hand with this number; any value may be asked for."""
        if not is_index(hand, len(self._workers)):
            raise NoHand(hand)
        return self._workers[hand]

    def job(self, hand):
        """The present job of a hand, or None."""
        return self.worker_of(hand).present()

    def held(self, hand):
        """The pages that a hand holds, in the order in which it took them."""
        return tuple(self.worker_of(hand).latched)

    def wanted(self, hand):
        """The page that a hand wants, or None."""
        return self.worker_of(hand).wanted_page(self._store.file)

    def blockers(self, hand):
        """The other hands because of which a hand would wait, ascending."""
        worker = self.worker_of(hand)
        page = self.wanted(hand)
        others = [(number, other) for number, other in enumerate(self._workers) if number != hand]
        return tuple([number for number, other in others if worker.is_hindered(other, page)])

    def ended(self, hand):
        """The last rows of the ended jobs of a hand."""
        return tuple(self.worker_of(hand).ends)

    def turn(self, hand):
        """A hand makes its turn; returns the row."""
        row = self.turned(hand, self.worker_of(hand))
        self._rows.append(row)
        return row

    def turned(self, hand, worker):
        """What a turn changes but for the rows; returns the row."""
        job, page = worker.present(), self.wanted(hand)
        if job is None:
            return "idle", hand
        if self.blockers(hand):
            return "wait", hand, page
        if page is not None:
            worker.take_page(self._store.rule, self._store.file, page)
            return "take", hand, page
        if job[0] == "scan" and not worker.has_read:
            pairs = pairs_in(self._store.file, worker.latched[-1], job[1], job[2])
            worker.keep_pairs(pairs)
            return "read", hand, job, pairs
        row = self.last_row(hand, job, worker.pairs)
        worker.finish_job(row)
        return row

    def last_row(self, hand, job, pairs):
        """Answers a question or does a deed; returns the row."""
        if job[0] == "get":
            return "told", hand, job, value_at(self._store.file, job[1])
        if job[0] == "scan":
            return "told", hand, job, pairs
        try:
            number = self._store.do(job)
        except NoKey:
            return "refused", hand, job, "NoKey"
        except Full:
            return "refused", hand, job, "Full"
        except TooScarred:
            return "refused", hand, job, "TooScarred"
        return "commit", hand, job, number, self._store.last[2]

    def run(self, numbers):
        """Yields the rows of turns as they are made: of these hands in order, then in rounds until no job is left."""
        order = tuple(numbers)
        for hand in order:
            if not is_index(hand, len(self._workers)):
                raise NoHand(hand)
        for hand in order:
            yield self.turn(hand)
        while not self.is_done:
            for hand in range(len(self._workers)):
                if self.job(hand) is not None:
                    yield self.turn(hand)

    def __len__(self):
        return len(self._workers)

    def __repr__(self):
        return f"Crew({len(self._workers)} hands, {len(self._rows)} rows)"
