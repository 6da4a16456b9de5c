"""Plain models of shapes, ripe pages, faults and tables of leads, by the words of DOC.md."""

from tests.helpers import Model, ModelPage, numbers_of


def below_of(sizes, level, page):
    """The numbers of the pages below a page."""
    before = 0
    for other in range(page):
        before += sizes[level][other]
    return list(range(before, before + sizes[level][page]))


def long_and_short(rule, is_leaf):
    leaf_left, leaf_right, page_left, page_right = numbers_of(rule)
    both = sorted([leaf_left, leaf_right] if is_leaf else [page_left, page_right])
    return both[1], both[0]


def keeps_left(rule):
    leaf_left, leaf_right, page_left, page_right = numbers_of(rule)
    return leaf_left >= leaf_right and page_left >= page_right


def model_leading(rule, sizes, level, page):
    if level == len(sizes) - 1:
        return []
    short = long_and_short(rule, False)[1]
    below = below_of(sizes, level, page)
    return below[:short] if keeps_left(rule) else list(reversed(below[-short:]))


def model_ripe(rule, sizes, level, page):
    is_leaf = level == len(sizes) - 1
    if sizes[level][page] < long_and_short(rule, is_leaf)[0]:
        return False
    if is_leaf:
        return True
    return any(model_ripe(rule, sizes, level + 1, lower) for lower in model_leading(rule, sizes, level, page))


def on_edge(rule, sizes, level, page):
    return page == (0 if keeps_left(rule) else len(sizes[level]) - 1)


def model_asked(rule, sizes, level, page):
    if level == len(sizes) - 1 or on_edge(rule, sizes, level, page):
        return False
    return sizes[level][page] != long_and_short(rule, False)[1]


def model_faults(rule, shape):
    sizes, ghosts = shape
    found = []
    for level, row in enumerate(sizes):
        is_leaf = level == len(sizes) - 1
        long, short = long_and_short(rule, is_leaf)
        for page, size in enumerate(row):
            edge = on_edge(rule, sizes, level, page)
            if level > 0 and size < short:
                found.append((level, page, "few"))
            if level > 0 and edge and short <= size < long:
                found.append((level, page, "edge"))
            if not is_leaf and not edge and size != short:
                if not any(model_ripe(rule, sizes, level + 1, n) for n in model_leading(rule, sizes, level, page)):
                    found.append((level, page, "lead"))
            if is_leaf and page in ghosts:
                found.append((level, page, "ghost"))
    return found


def model_is_table(rule, shape, value):
    """Whether a value is a table of leads of a shape."""
    sizes = shape[0]
    if type(value) is not tuple:
        return False
    for row in value:
        if type(row) is not tuple or len(row) != 3 or any(type(number) is not int for number in row):
            return False
        level, page, lower = row
        if level not in range(len(sizes) - 1) or page not in range(len(sizes[level])):
            return False
        if lower not in model_leading(rule, sizes, level, page):
            return False
        if sizes[level + 1][lower] < long_and_short(rule, level + 1 == len(sizes) - 1)[0]:
            return False
    if any(not low < high for low, high in zip(value, value[1:])):
        return False
    needed = {
        (level, page)
        for level, row in enumerate(sizes)
        for page in range(len(row))
        if model_asked(rule, sizes, level, page)
    }
    needed |= {(level + 1, lower) for level, _, lower in value if level + 1 < len(sizes) - 1}
    pages = [(level, page) for level, page, _ in value]
    return len(pages) == len(set(pages)) and set(pages) == needed


def levels_with(shape):
    """Levels with this shape; keys and separators are multiples of 10."""
    sizes, ghosts = shape
    leaves, separators = [], []
    following = 10
    for leaf, size in enumerate(sizes[-1]):
        if leaf > 0:
            separators.append(following)
            if leaf in ghosts:
                following += 10
        leaves.append(tuple(range(following, following + 10 * size, 10)))
        following += 10 * size
    levels = [tuple(leaves)]
    for row in reversed(sizes[:-1]):
        pages, upper, at = [], [], 0
        for size in row:
            if at > 0:
                upper.append(separators[at - 1])
            pages.append(tuple(separators[at:at + size - 1]))
            at += size
        levels.insert(0, tuple(pages))
        separators = upper
    return tuple(levels)


def rows_of_leaves(rule, many):
    """All rows of sizes of leaves with so many keys, and none without keys behind the first one."""
    most = numbers_of(rule)[0] + numbers_of(rule)[1] - 1

    def more(row, rest):
        if row and rest == 0:
            yield tuple(row)
        for size in range(0 if not row else 1, min(most, rest) + 1):
            yield from more(row + [size], rest - size)

    return more([], many)


def groupings(row_length, most):
    """All rows of sizes from 2 to `most` that add up to a length."""
    if row_length == 0:
        yield ()
    for size in range(2, min(most, row_length) + 1):
        for rest in groupings(row_length - size, most):
            yield (size,) + rest


def all_sizes(rule, many):
    """The sizes of all levels with so many keys and without ghosts."""
    most = numbers_of(rule)[2] + numbers_of(rule)[3] - 1

    def above(sizes):
        if len(sizes[0]) == 1:
            yield sizes
            return
        for row in groupings(len(sizes[0]), most):
            yield from above((row,) + sizes)

    for leaves in rows_of_leaves(rule, many):
        yield from above((leaves,))


def model_of(rule, levels):
    """A Model with these levels."""
    row = [ModelPage(list(leaf), None) for leaf in levels[-1]]
    for pages in reversed(levels[:-1]):
        rest = iter(row)
        row = [ModelPage(list(page), [next(rest) for _ in range(len(page) + 1)]) for page in pages]
    model = Model(rule)
    model.root = row[0]
    return model


def model_sizes(levels):
    return tuple(
        tuple(len(page) + (0 if level == len(levels) - 1 else 1) for page in pages)
        for level, pages in enumerate(levels)
    )


def grown_sizes(rule, most):
    """For each number of keys up to `most`, the set of all sizes to which puts lead."""
    found = [{((0,),)}]
    for many in range(most):
        after = set()
        for sizes in found[-1]:
            levels = levels_with((sizes, ()))
            for place in range(many + 1):
                model = model_of(rule, levels)
                model.put(10 * place + 5)
                after.add(model_sizes(model.levels()))
        found.append(after)
    return found
