"""Searches for trees by the words of DOC.md: trees before others, and all trees to which few keys lead."""

from tests.helpers import Model, numbers_of
from tests.shape_models import groupings, model_of


def levels_over(rule, leaves, separators):
    """All levels with these leaves and these separators between them, pages being of any size that is allowed."""
    most = numbers_of(rule)[2] + numbers_of(rule)[3] - 1

    def above(levels, between):
        if len(levels[0]) == 1:
            yield levels
            return
        for row in groupings(len(levels[0]), most):
            pages, upper, at = [], [], 0
            for size in row:
                pages.append(tuple(between[at:at + size - 1]))
                upper += between[at + size - 1:at + size]
                at += size
            yield from above((tuple(pages),) + levels, upper)

    return above((leaves,), list(separators))


def parted(keys, separators):
    """The leaves into which separators part keys."""
    leaves = [[]]
    rest = list(separators)
    for key in sorted(keys):
        while rest and rest[0] <= key:
            leaves.append([])
            rest.pop(0)
        leaves[-1].append(key)
    leaves += [[] for _ in rest]
    return tuple(tuple(leaf) for leaf in leaves)


def put_levels(rule, levels, key):
    model = model_of(rule, levels)
    model.put(key)
    return model.levels()


def model_separators(levels):
    return sorted(separator for pages in levels[:-1] for page in pages for separator in page)


def candidates_before(rule, levels, key):
    """All levels without the key that have the separators of levels, or all of these but one."""
    separators = model_separators(levels)
    keys = [stored for leaf in levels[-1] for stored in leaf if stored != key]
    most = numbers_of(rule)[0] + numbers_of(rule)[1] - 1
    for gone in [None] + separators:
        rest = [separator for separator in separators if separator != gone]
        leaves = parted(keys, rest)
        if all(len(leaf) <= most for leaf in leaves):
            yield from levels_over(rule, leaves, rest)


def model_before(rule, levels, key):
    """The sorted list of all levels before levels by a key: a put adds one separator at most and takes none away."""
    found = candidates_before(rule, levels, key)
    return sorted(earlier for earlier in found if put_levels(rule, earlier, key) == levels)


def model_back(rule, first, later):
    """The set of all levels to which going back leads from later ones, by keys that the first ones do not have."""
    known = {key for leaf in first[-1] for key in leaf}
    met, row = {later}, [later]
    while row:
        levels = row.pop()
        for key in [key for leaf in levels[-1] for key in leaf if key not in known]:
            for earlier in model_before(rule, levels, key):
                if earlier not in met:
                    met.add(earlier)
                    row.append(earlier)
    return met


def reached(rule, keys, most, kept=None):
    """All levels to which deeds of these keys lead with at most so many strikes, and with how few; `kept` is never
    struck."""
    cost, row = {(((),),): 0}, [(((),),)]
    for strikes in range(most + 1):
        found = []
        while row:
            levels = row.pop()
            if cost[levels] < strikes:
                continue
            stored = [key for leaf in levels[-1] for key in leaf]
            for key in keys:
                model = model_of(rule, levels)
                if key not in stored:
                    model.put(key)
                    after = model.levels()
                    if cost.get(after, most + 1) > strikes:
                        cost[after] = strikes
                        row.append(after)
                elif key != kept:
                    model.strike(key)
                    found.append(model.levels())
        for levels in found:
            if strikes < most and levels not in cost:
                cost[levels] = strikes + 1
                row.append(levels)
    return cost


def replayed(rule, deeds):
    """The levels to which deeds of keys lead; fails if one cannot be done."""
    model, stored = Model(rule), set()
    for word, key in deeds:
        if word == "put":
            assert key not in stored
            stored.add(key)
            model.put(key)
        else:
            assert word == "strike"
            stored.remove(key)
            model.strike(key)
    return model.levels()
