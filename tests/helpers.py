"""What several tests need: rules, odd values, random trees, and plain models of what DOC.md says."""

import random

from splitscar.rules import Rule
from splitscar.trees import Tree

RULE_NUMBERS = [
    (1, 1, 2, 2),
    (2, 1, 2, 2),
    (1, 2, 2, 2),
    (3, 1, 2, 2),
    (1, 3, 2, 2),
    (2, 2, 2, 2),
    (2, 1, 3, 2),
    (1, 2, 2, 3),
    (3, 2, 4, 2),
    (2, 3, 2, 4),
    (1, 1, 3, 2),
    (1, 1, 2, 3),
    (4, 2, 3, 3),
    (2, 4, 3, 3),
    (2, 2, 5, 3),
    (2, 2, 3, 5),
    (9, 8, 9, 8),
    (8, 9, 8, 9),
    (16, 1, 15, 2),
    (1, 16, 2, 15),
]

RULES = [Rule(*numbers) for numbers in RULE_NUMBERS]

BIG = 10 ** 15

NO_KEYS = [
    None, True, False, "", "1", "a b", BIG, -BIG, 10 ** 59, -10 ** 59, (), (1,), [], [1], {}, {1: 2}, ((1,), [2]),
]

ODD_VALUES = NO_KEYS + [0, 1, -1, 2, 999999999999999, (0, 0), [0, 0], {"a": [1, (2,)]}, "x\ny", ((((),),),)]


def numbers_of(rule):
    return (rule.leaf_left, rule.leaf_right, rule.page_left, rule.page_right)


class ModelPage:
    """A page of a plain model of a tree: integers, and the pages below, None for a leaf."""

    def __init__(self, integers, below):
        self.integers = integers
        self.below = below


class Model:
    """Puts and strikes, done page by page as [6] says, on pages that change."""

    def __init__(self, rule):
        self.leaf_left, self.leaf_right, self.page_left, self.page_right = numbers_of(rule)
        self.root = ModelPage([], None)

    def put(self, key):
        split = self._put_below(self.root, key)
        if split is not None:
            self.root = ModelPage([split[0]], [self.root, split[1]])

    def _put_below(self, page, key):
        if page.below is None:
            page.integers = sorted(page.integers + [key])
            if len(page.integers) < self.leaf_left + self.leaf_right:
                return None
            new = ModelPage(page.integers[self.leaf_left:], None)
            page.integers = page.integers[:self.leaf_left]
            return new.integers[0], new
        at = sum(1 for separator in page.integers if not separator > key)
        split = self._put_below(page.below[at], key)
        if split is not None:
            page.integers.insert(at, split[0])
            page.below.insert(at + 1, split[1])
        if len(page.below) < self.page_left + self.page_right:
            return None
        up = page.integers[self.page_left - 1]
        new = ModelPage(page.integers[self.page_left:], page.below[self.page_left:])
        page.integers = page.integers[:self.page_left - 1]
        page.below = page.below[:self.page_left]
        return up, new

    def strike(self, key):
        page = self.root
        while page.below is not None:
            page = page.below[sum(1 for separator in page.integers if not separator > key)]
        page.integers.remove(key)

    def levels(self):
        row = [self.root]
        levels = []
        while row:
            levels.append(tuple(tuple(page.integers) for page in row))
            row = [lower for page in row for lower in (page.below or [])]
        return tuple(levels)


def model_levels(rule, keys):
    model = Model(rule)
    for key in keys:
        model.put(key)
    return model.levels()


def sequence_of(levels, level=0, page=0):
    """The sequence [4] of a page as pairs of an integer and whether it is a separator."""
    integers = levels[level][page]
    if level == len(levels) - 1:
        return [(integer, False) for integer in integers]
    start = sum(len(other) + 1 for other in levels[level][:page])
    row = sequence_of(levels, level + 1, start)
    for at, separator in enumerate(integers):
        row.append((separator, True))
        row.extend(sequence_of(levels, level + 1, start + at + 1))
    return row


def model_is_levels(rule, value):
    """Whether a value is levels of the rule, by the words of [4]."""
    if type(value) is not tuple or not value or any(type(level) is not tuple for level in value):
        return False
    pages = [page for level in value for page in level]
    if any(type(page) is not tuple for page in pages):
        return False
    if any(type(n) is not int or len(str(abs(n))) > 15 for page in pages for n in page):
        return False
    if len(value[0]) != 1:
        return False
    for level, following in zip(value, value[1:]):
        if any(len(page) < 1 or len(page) + 1 >= rule.page_left + rule.page_right for page in level):
            return False
        if len(following) != sum(len(page) + 1 for page in level):
            return False
    if any(len(leaf) >= rule.leaf_left + rule.leaf_right for leaf in value[-1]):
        return False
    row = sequence_of(value)
    for (low, low_splits), (high, high_splits) in zip(row, row[1:]):
        if not low < high and not (low == high and low_splits and not high_splits):
            return False
    return True


def random_levels(rule, seed, many, strikes=0):
    """Levels after puts of so many keys in a random order, with strikes in between, by the model."""
    rng = random.Random(seed)
    model = Model(rule)
    keys = rng.sample(range(-4 * many, 4 * many), many)
    order = rng.choice(["random", "up", "down"])
    if order != "random":
        keys.sort(reverse=order == "down")
    present = []
    for at, key in enumerate(keys):
        model.put(key)
        present.append(key)
        if rng.randrange(many) < strikes:
            model.strike(present.pop(rng.randrange(len(present))))
    return model.levels()


def struck_levels(rule, seed, many, strikes):
    """Levels of a random tree from which some keys were struck at the end."""
    rng = random.Random(seed)
    tree = Tree(rule, random_levels(rule, seed, many))
    for key in rng.sample(tree.stored, min(strikes, len(tree))):
        tree = tree - key
    return tree.levels


def sample_levels(rule):
    """Levels of many sizes, with and without ghosts and empty leaves."""
    found = [(((),),)]
    for seed in range(12):
        many = 1 + seed * 4
        found.append(random_levels(rule, seed, many))
        found.append(random_levels(rule, seed + 100, many, strikes=many // 2))
        found.append(struck_levels(rule, seed + 200, many, many // 2))
        found.append(struck_levels(rule, seed + 300, many, many))
    return found


def same(first, second):
    """Whether two values are equal and of the same kinds throughout."""
    if type(first) is not type(second):
        return False
    if isinstance(first, (tuple, list)):
        return len(first) == len(second) and all(same(a, b) for a, b in zip(first, second))
    if isinstance(first, dict):
        return list(first) == list(second) and all(same(first[key], second[key]) for key in first)
    return first == second
