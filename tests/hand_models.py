"""A plain model of hands by the words of [22], page by page, and jobs to try them with."""

from splitscar.commits import applied, entry_of
from splitscar.errors import Full
from splitscar.rooms import fewest_strikes
from splitscar.trees import Tree

from tests.file_models import model_levels_of, model_value, random_value
from tests.variants import is_kind, plain_deed, plain_key

DEEDS = ("put", "strike", "strike range", "rebuild")


def plain_question(value):
    """Whether a value is a question, form by form."""
    if not is_kind(value, tuple) or not value or not is_kind(value[0], str):
        return False
    many = {"get": 1, "scan": 2}.get(value[0])
    return many == len(value) - 1 and all(plain_key(key) for key in value[1:])


def plain_job(value):
    return plain_deed(value) or plain_question(value)


class ModelHand:
    """A hand: its jobs to do, the pages that it holds, what it has read, and its goal.

    The goal is ("page", page), ("read",), ("alone",) of a rebuild with page 0, or ("end",).
    """

    def __init__(self, jobs):
        self.jobs = list(jobs)
        self.pages = []
        self.pairs = []
        self.goal = ("page", 0)
        self.ended = []


class ModelCrew:
    """All hands with a file. `most` is the bound of a guarded store, or None."""

    def __init__(self, rule, file, hands, most=None):
        self.rule, self.file, self.most = rule, file, most
        self.hands = [ModelHand(jobs) for jobs in hands]
        self.rows = []

    def job(self, number):
        jobs = self.hands[number].jobs
        return jobs[0] if jobs else None

    def wanted(self, number):
        if self.job(number) is None or self.hands[number].goal[0] != "page":
            return None
        return self.hands[number].goal[1]

    def blockers(self, number):
        job, found = self.job(number), []
        for other, hand in enumerate(self.hands):
            if other == number or job is None:
                continue
            goal = self.hands[number].goal
            if goal[0] == "page" and goal[1] in hand.pages:
                if job[0] in DEEDS or hand.jobs[0][0] in DEEDS:
                    found.append(other)
            if goal == ("alone",) and hand.pages:
                found.append(other)
        return tuple(found)

    def ready(self):
        return tuple(number for number, hand in enumerate(self.hands) if hand.jobs and not self.blockers(number))

    def turn(self, number):
        row = self.turned(number)
        self.rows.append(row)
        return row

    def turned(self, number):
        hand = self.hands[number]
        if not hand.jobs:
            return ("idle", number)
        if self.blockers(number):
            return ("wait", number, self.wanted(number))
        job = hand.jobs[0]
        if hand.goal[0] == "page":
            page = hand.goal[1]
            self.take(hand, job, page)
            return ("take", number, page)
        if hand.goal == ("read",):
            leaf = self.file[hand.pages[-1]]
            pairs = tuple((key, model_value(self.file, held)) for key, held in leaf[1] if job[1] <= key <= job[2])
            hand.pairs += pairs
            hand.goal = self.right_of(hand.pages[-1], job[2])
            return ("read", number, job, pairs)
        row = self.end(number, hand, job)
        hand.ended.append(row)
        hand.jobs, hand.pages, hand.pairs, hand.goal = hand.jobs[1:], [], [], ("page", 0)
        return row

    def right_of(self, page, high):
        _, records, right = self.file[page]
        if right is None or any(key > high for key, _ in records):
            return ("end",)
        return ("page", right)

    def take(self, hand, job, page):
        image = self.file[page]
        full_leaf = image[0] == "leaf" and len(image[1]) + 1 == self.rule.leaf_left + self.rule.leaf_right
        full_page = image[0] == "inner" and len(image[2]) + 1 == self.rule.page_left + self.rule.page_right
        if job[0] == "put" and (full_leaf or full_page):
            pass
        elif job[0] == "strike range":
            hand.pages = [other for other in hand.pages if self.file[other][0] == "leaf"]
        else:
            hand.pages = []
        hand.pages.append(page)
        if job[0] == "rebuild":
            hand.goal = ("alone",)
        elif image[0] == "head":
            hand.goal = ("page", image[1])
        elif image[0] == "inner":
            hand.goal = ("page", image[2][sum(1 for separator in image[1] if not separator > job[1])])
        elif job[0] == "scan":
            hand.goal = ("read",)
        elif job[0] == "strike range":
            hand.goal = self.right_of(page, job[2])
        else:
            hand.goal = ("end",)

    def table(self):
        return {key: model_value(self.file, held)
                for image in self.file if image[0] == "leaf" for key, held in image[1]}

    def end(self, number, hand, job):
        if job[0] == "get":
            return ("told", number, job, self.table().get(job[1]))
        if job[0] == "scan":
            return ("told", number, job, tuple(hand.pairs))
        if job[0] == "strike" and job[1] not in self.table():
            return ("refused", number, job, "NoKey")
        try:
            entry = entry_of(self.rule, self.file, job)
        except Full:
            return ("refused", number, job, "Full")
        later = applied(self.file, entry)
        if self.most is not None and fewest_strikes(Tree(self.rule, model_levels_of(later))) > self.most:
            return ("refused", number, job, "TooScarred")
        self.file = later
        return ("commit", number, job, entry[0], entry[2])


def random_job(rng, keys, rebuilds=0.05):
    """A job with keys from a range, present or not."""
    luck, key = rng.random(), rng.choice(keys)
    if luck < rebuilds:
        return ("rebuild",)
    if luck < 0.4:
        return ("put", key, random_value(rng))
    if luck < 0.5:
        return ("strike", key)
    other = key + rng.choice([-4, 0, 3, 8, 50])
    if luck < 0.65:
        return ("strike range", key, other)
    return ("get", key) if luck < 0.8 else ("scan", key, other)


def random_hands(rng, many, keys, most_jobs=5):
    return [tuple(random_job(rng, keys) for _ in range(rng.randrange(most_jobs + 1))) for _ in range(many)]
