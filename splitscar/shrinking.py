"""Takes the keys out of a grown tree again, so that their puts can be told in order.

A split is undone where a ripe page stands beside the page that was split off from it.
Both are first made as small as they were then; the page that is split off was short
and the other one long. The key that is then taken is one whose put split them.
"""

from splitscar.errors import NotGrown
from splitscar.faults import tree_fault
from splitscar.levels import sizes_of
from splitscar.ripeness import ripe_lead, ripe_rows
from splitscar.shapes import pages_below


class Part:
    """A page that shrinks: `inside` are its keys, or the parts below it, from the left.

    `lead` is the place of a ripe part below it, counted from the kept side. It stays
    the same when splits are undone, since they are undone on the other side of it.
    """

    def __init__(self, inside, lead):
        self.inside = inside
        self.lead = lead


class Shrinking:
    """Takes keys out of parts. A height is 0 for leaves, and more by 1 on each level above."""

    def __init__(self, rule):
        self._rule = rule
        self._taken = []

    def taken_keys(self):
        """The keys that were taken, in the order of their puts."""
        return tuple(self._taken[::-1])

    def lessen(self, part, height, size):
        """Takes keys until a part has this size."""
        while len(part.inside) > size:
            self.lessen_by_one(part, height)

    def lessen_by_one(self, part, height):
        """Takes keys until the size of a part is less by one."""
        if height == 0:
            # The first key may be a separator, so the last one is taken.
            self._taken.append(part.inside.pop())
        elif self._rule.keeps_left:
            at = part.lead
            whole = self.unsplit(part.inside[at], part.inside[at + 1], height - 1)
            part.inside[at:at + 2] = [whole]
        else:
            at = len(part.inside) - 1 - part.lead
            whole = self.unsplit(part.inside[at], part.inside[at - 1], height - 1)
            part.inside[at - 1:at + 1] = [whole]

    def unsplit(self, kept, other, height):
        """The part that was split into a ripe one, which was kept, and another one."""
        if height == 0:
            self.lessen(kept, height, self._rule.leaf_long)
            self.lessen(other, height, self._rule.leaf_short)
        else:
            self.lessen(kept, height, self._rule.page_long)
            self.lessen(other, height, self._rule.page_short)
        inside = kept.inside + other.inside if self._rule.keeps_left else other.inside + kept.inside
        whole = Part(inside, kept.lead)
        self.lessen_by_one(whole, height)
        return whole


def root_part(rule, levels):
    """The root of levels as a part, with all parts below it."""
    sizes = sizes_of(levels)
    ripe = ripe_rows(rule, sizes)
    row = [Part(list(leaf), None) for leaf in levels[-1]]
    for level in range(len(levels) - 2, -1, -1):
        upper = []
        for page in range(len(levels[level])):
            start, end = pages_below(sizes, level, page)
            upper.append(Part(row[start:end], lead_place(rule, sizes, ripe, level, page)))
        row = upper
    return row[0]


def lead_place(rule, sizes, ripe, level, page):
    """The place of the first ripe leading page, counted from the kept side, or None."""
    lower = ripe_lead(rule, sizes, ripe, level, page)
    if lower is None:
        return None
    start, end = pages_below(sizes, level, page)
    return lower - start if rule.keeps_left else end - 1 - lower


def order_of(tree):
    """An order of the keys of a tree in which their puts lead to exactly its levels."""
    found = tree_fault(tree)
    if found is not None:
        raise NotGrown(found)
    shrinking = Shrinking(tree.rule)
    root = root_part(tree.rule, tree.levels)
    for height in range(tree.depth - 1, 0, -1):
        shrinking.lessen(root, height, 1)
        root = root.inside[0]
    shrinking.lessen(root, 0, 0)
    return shrinking.taken_keys()
