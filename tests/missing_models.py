"""A plain model of what a log surely lacks, by the words of [24]."""

import random

from splitscar.store import Store

from tests.file_models import model_levels_of, model_table, random_deed
from tests.shape_models import below_of, long_and_short, model_asked
from tests.strike_models import model_extra, model_leaf_need
from tests.tree_models import model_separators


def history(rule, seed, many, keys=range(20), rebuilds=0.02):
    """A store with the rows behind its last rebuild, and the table at this one."""
    rng = random.Random(seed)
    store = Store(rule)
    rows, start = [], ()
    for _ in range(many):
        store.do(random_deed(rng, store.table, keys, rebuilds=rebuilds))
        rows.append(store.last[:3])
        if store.born == store.commit:
            rows, start = [], store.table
    return rng, store, tuple(rows), start


def marks_of_key(key, rows, start, table, born, end):
    """The marks of a key as (number, present before, value afterwards), "?" for what is not told, None for absent."""
    marks = []
    if start is not None:
        marks.append((born, "?", dict(start).get(key)))
    for number, deed, keys in rows:
        if deed[0] == "put" and deed[1] == key:
            marks.append((number, "?", deed[2]))
        elif key in keys:
            marks.append((number, True, None))
        elif deed[0] == "strike range" and deed[1] <= key <= deed[2]:
            marks.append((number, False, None))
    value = dict(table).get(key)
    return marks + [(end, value is not None, value)]


def ghosts_in(levels):
    between = model_separators(levels)
    return [between[leaf - 1] for leaf in range(1, len(levels[-1])) if between[leaf - 1] not in levels[-1][leaf]]


def model_gaps(file, rows, start, keys):
    """All gaps of these keys."""
    born, end = file[0][2], file[1][3] + 1
    start = () if born == 0 else start
    table, ghosts = model_table(file), ghosts_in(model_levels_of(file))
    gaps = []
    for key in keys:
        marks = marks_of_key(key, rows, start, table, born, end)
        for (after, _, left), (before, was, value) in zip(marks, marks[1:]):
            if left is not None and was is False:
                gaps.append((key, "strike", after, before))
            if left is None and was is True:
                gaps.append((key, "put", after, before))
            if left is not None and before == end and was is True and value != left:
                gaps.append((key, "put", after, before))
        if key in ghosts and not any(was is True or value is not None for _, was, value in marks):
            gaps.append((key, "strike", born, end))
            if start is not None:
                gaps.append((key, "put", born, end))
    return sorted(gaps, key=lambda gap: (gap[0], gap[2], gap[1]))


def model_missing_numbers(file, rows):
    told = [row[0] for row in rows]
    return [number for number in range(file[0][2] + 1, file[1][3] + 1) if number not in told]


def model_leaf_pairs(rule, shape, rooms, levels, rows, gaps):
    """The needs and prices of the leaves for what is missing."""
    between, pairs = model_separators(levels), []
    for leaf in range(len(levels[-1])):
        need, price = model_leaf_need(rule, shape, rooms, leaf)
        low = between[leaf - 1] if leaf > 0 else -10 ** 16
        high = between[leaf] if leaf < len(between) else 10 ** 16
        told = sum(1 for _, _, keys in rows for key in keys if low <= key < high)
        sure = sum(1 for key, word, _, _ in gaps if word == "strike" and low <= key < high)
        need = max(need - told, sure, 0)
        pairs.append((need, None if price is None else max(price - told, need)))
    return pairs


def need_above(rule, sizes, leaf_pairs, level, page):
    """The pair (need, price) of a page of levels with a history, by other pairs of the leaves."""
    if level == len(sizes) - 1:
        return leaf_pairs[page]
    pairs = {lower: need_above(rule, sizes, leaf_pairs, level + 1, lower) for lower in below_of(sizes, level, page)}
    extra = model_extra(rule, sizes, pairs, level, page)
    total = sum(need for need, _ in pairs.values())
    need = total + (extra if model_asked(rule, sizes, level, page) else 0)
    is_long = sizes[level][page] >= long_and_short(rule, False)[0]
    return (need, total + extra if is_long and extra is not None else None)


def model_shares(rule, sizes, leaf_pairs):
    """The rows of the need of the root."""
    rows = [("leaf", leaf, need) for leaf, (need, _) in enumerate(leaf_pairs) if need > 0]
    for level in range(len(sizes) - 1):
        for page in range(len(sizes[level])):
            if model_asked(rule, sizes, level, page):
                below = below_of(sizes, level, page)
                pairs = {lower: need_above(rule, sizes, leaf_pairs, level + 1, lower) for lower in below}
                extra = model_extra(rule, sizes, pairs, level, page)
                if extra > 0:
                    rows.append(("lead", level, page, extra))
    return tuple(sorted(rows))
