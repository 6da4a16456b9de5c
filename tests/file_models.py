"""A plain model of files and their deeds by the words of [17] and [18], and of what makes a file sound [23]."""

from splitscar.commits import applied, entry_of

from tests.helpers import model_is_levels, numbers_of


class ModelNode:
    """A page of the tree: `records` of a leaf (None for another page), or `separators` and the nodes `below`."""

    def __init__(self, number, records=None, separators=None, below=None):
        self.number = number
        self.records = records
        self.separators = separators
        self.below = below


class ModelFile:
    """A file as nodes that change. Values are kept as strings, beside the pages of their pieces."""

    def __init__(self, rule):
        self.leaf_left, self.leaf_right, self.page_left, self.page_right = numbers_of(rule)
        self.root = ModelNode(2, records={})
        self.free = set()
        self.many = 3
        self.commit = 0
        self.born = 0

    def take(self):
        if self.free:
            page = min(self.free)
            self.free.discard(page)
            return page
        self.many += 1
        return self.many - 1

    def leaves(self, node=None):
        node = node or self.root
        if node.records is not None:
            return [node]
        return [leaf for lower in node.below for leaf in self.leaves(lower)]

    def leaf_of(self, key):
        node = self.root
        while node.records is None:
            node = node.below[sum(1 for separator in node.separators if not separator > key)]
        return node

    def table(self):
        return tuple((key, leaf.records[key][0]) for leaf in self.leaves() for key in sorted(leaf.records))

    def do(self, deed, levels=None):
        """Does a deed; a rebuild is told the packed levels. Returns the keys that were struck."""
        self.commit += 1
        if deed[0] == "put":
            self.put(deed[1], deed[2])
            return ()
        if deed[0] == "rebuild":
            self.rebuild(levels)
            return ()
        low, high = deed[1], deed[-1]
        struck = tuple(key for key, _ in self.table() if low <= key <= high)
        for key in struck:
            self.free |= set(self.leaf_of(key).records.pop(key)[1])
        return struck

    def put(self, key, value):
        leaf = self.leaf_of(key)
        if key in leaf.records:
            self.free |= set(leaf.records[key][1])
        pages = []
        if len(value) > 8:
            for _ in range(0, len(value), 8):
                pages.append(self.take())
        leaf.records[key] = (value, pages)
        split = self.split_below(self.root, key)
        if split is not None:
            old = self.root
            self.root = ModelNode(self.take(), separators=[split[0]], below=[old, split[1]])

    def split_below(self, node, key):
        if node.records is not None:
            if len(node.records) < self.leaf_left + self.leaf_right:
                return None
            keys = sorted(node.records)
            moved = {k: node.records.pop(k) for k in keys[self.leaf_left:]}
            return keys[self.leaf_left], ModelNode(self.take(), records=moved)
        at = sum(1 for separator in node.separators if not separator > key)
        split = self.split_below(node.below[at], key)
        if split is not None:
            node.separators.insert(at, split[0])
            node.below.insert(at + 1, split[1])
        if len(node.below) < self.page_left + self.page_right:
            return None
        up = node.separators[self.page_left - 1]
        new = ModelNode(self.take(), separators=node.separators[self.page_left:], below=node.below[self.page_left:])
        del node.separators[self.page_left - 1:]
        del node.below[self.page_left:]
        return up, new

    def nodes(self):
        row, found = [self.root], []
        while row:
            found += row
            row = [lower for node in row for lower in (node.below or [])]
        return found

    def rebuild(self, levels):
        old = [node.number for node in self.nodes()]
        records = {key: leaf.records[key] for leaf in self.leaves() for key in leaf.records}
        row = [ModelNode(self.take(), records={key: records[key] for key in keys}) for keys in levels[-1]]
        for pages in reversed(levels[:-1]):
            rest, upper = list(row), []
            for page in pages:
                below, rest = rest[:len(page) + 1], rest[len(page) + 1:]
                upper.append(ModelNode(self.take(), separators=list(page), below=below))
            row = upper
        self.root = row[0]
        self.born = self.commit
        self.free |= set(old)

    def file(self):
        images = [("free",)] * self.many
        images[0] = ("head", self.root.number, self.born)
        images[1] = ("space", self.many, tuple(sorted(self.free)), self.commit)
        leaves = self.leaves()
        for at, leaf in enumerate(leaves):
            right = leaves[at + 1].number if at + 1 < len(leaves) else None
            records = []
            for key in sorted(leaf.records):
                value, pages = leaf.records[key]
                records.append((key, ("at", pages[0], len(value)) if pages else value))
                for place, page in enumerate(pages):
                    following = pages[place + 1] if place + 1 < len(pages) else None
                    images[page] = ("piece", value[8 * place:8 * place + 8], following)
            images[leaf.number] = ("leaf", tuple(records), right)
        for node in self.nodes():
            if node.records is None:
                images[node.number] = ("inner", tuple(node.separators), tuple(lower.number for lower in node.below))
        return tuple(images)


def model_changes(file, later):
    return tuple((page, later[page]) for page in range(len(later)) if page not in range(len(file))
                 or file[page] != later[page])


def model_levels_of(file):
    """The levels of a file, page by page from the root."""
    row, levels = [file[0][1]], []
    while row:
        pages = [file[page] for page in row]
        levels.append(tuple(page[1] if page[0] == "inner" else tuple(key for key, _ in page[1]) for page in pages))
        row = [lower for page in pages if page[0] == "inner" for lower in page[2]]
    return tuple(levels)


def model_value(file, held):
    if type(held) is str:
        return held
    text, page = "", held[1]
    while page is not None:
        text, page = text + file[page][1], file[page][2]
    return text


def model_table(file):
    found = {}
    for image in file:
        if image[0] == "leaf":
            found.update({key: model_value(file, held) for key, held in image[1]})
    return tuple(sorted(found.items()))


def is_sound_file(rule, file):
    """Whether a file of right images has every page once, linked as [17] and [23] tell."""
    if file[0][0] != "head" or file[1][0] != "space" or file[1][1] != len(file) or file[1][3] < file[0][2]:
        return False
    if not model_is_levels(rule, model_levels_of(file)):
        return False
    met, leaves, row = [], [], [file[0][1]]
    while row:
        met += row
        leaves = row
        row = [lower for page in row if file[page][0] == "inner" for lower in file[page][2]]
    rights = [file[page][2] for page in leaves]
    if rights != leaves[1:] + [None]:
        return False
    for page in leaves:
        for _, held in file[page][1]:
            if type(held) is tuple:
                pieces, piece = [], held[1]
                while piece is not None:
                    pieces.append(piece)
                    piece = file[piece][2]
                lengths = [len(file[piece][1]) for piece in pieces]
                if sum(lengths) != held[2] or any(length != 8 for length in lengths[:-1]) or not 9 <= held[2] <= 40:
                    return False
                met += pieces
    free = [page for page in range(2, len(file)) if page not in met]
    if len(met) != len(set(met)) or list(file[1][2]) != free:
        return False
    return all(file[page] == ("free",) for page in free)


def after(rule, file, *deeds):
    """The file behind commits of these deeds."""
    for deed in deeds:
        file = applied(file, entry_of(rule, file, deed))
    return file


def random_value(rng):
    """A value of a length at which something changes, or of any other."""
    length = rng.choice([0, 1, 7, 8, 9, 15, 16, 17, 24, 25, 32, 33, 39, 40, rng.randrange(41)])
    return "".join(rng.choice("abc ~'=-0|Z") for _ in range(length))


def random_deed(rng, table, keys, rebuilds=0.02):
    """A deed that is not refused for a missing key, with keys from a range."""
    present = [key for key, _ in table]
    luck = rng.random()
    if luck < rebuilds:
        return ("rebuild",)
    if luck < 0.1:
        low = rng.choice(keys)
        return ("strike range", low, low + rng.choice([-3, -1, 0, 2, 5, 30]))
    if luck < 0.3 and present:
        return ("strike", rng.choice(present))
    if luck < 0.4 and present:
        key, value = rng.choice(table)
        return ("put", key, rng.choice([value, random_value(rng)]))
    return ("put", rng.choice(keys), random_value(rng))
