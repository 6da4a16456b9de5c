"""Plain models of sound files [23] and of rows that show strikes, word by word."""

from tests.helpers import Model, numbers_of
from tests.shape_models import long_and_short, model_asked, model_faults, model_leading
from tests.strike_models import model_leaf_need, model_ripens
from tests.variants import is_kind, plain_image, plain_key


def pages_in(image):
    """All numbers of pages in an image, but for the number of all pages."""
    name = image[0]
    if name == "head":
        return [image[1]]
    if name == "space":
        return list(image[2])
    if name == "inner":
        return list(image[2])
    if name == "leaf":
        long_values = [held[1] for _, held in image[1] if is_kind(held, tuple)]
        return long_values + [page for page in [image[2]] if page is not None]
    if name == "piece":
        return [page for page in [image[2]] if page is not None]
    return []


def stands(rule, file, page):
    """Whether the image of a page can stand there."""
    image = file[page]
    leaf_left, leaf_right, page_left, page_right = numbers_of(rule)
    if not plain_image(image):
        return False
    right_names = {0: ["head"], 1: ["space"]}.get(page, ["leaf", "inner", "piece", "free"])
    if image[0] not in right_names or any(not 2 <= other <= len(file) - 1 for other in pages_in(image)):
        return False
    if image[0] == "space" and (image[1] != len(file) or image[3] < file[0][2]):
        return False
    if image[0] == "leaf" and len(image[1]) >= leaf_left + leaf_right:
        return False
    return not (image[0] == "inner" and len(image[2]) >= page_left + page_right)


def model_file_fault(rule, value):
    """The file fault of any value by the words of [23], or None."""
    if not is_kind(value, tuple) or not 3 <= len(value) <= 900:
        return (-1, "form")
    for page in range(len(value)):
        if not stands(rule, value, page):
            return (page, "image")
    met, leaves = [], []
    fault = tree_fault_from(value, value[0][1], 0, [], [], met, leaves)
    if fault is not None:
        return fault
    for at, (page, _) in enumerate(leaves):
        if value[page][2] != (leaves[at + 1][0] if at + 1 < len(leaves) else None):
            return (page, "right")
    for page, _ in leaves:
        for _, held in value[page][1]:
            if is_kind(held, tuple):
                fault = piece_fault(value, held[1], held[2], met)
                if fault is not None:
                    return fault
    for page in range(2, len(value)):
        if page not in met and value[page] != ("free",):
            return (page, "lost")
    if value[1][2] != tuple(page for page in range(2, len(value)) if page not in met):
        return (1, "free")
    return None


def tree_fault_from(file, page, level, left, right, met, leaves):
    """The first fault of a page and all below it; `left` and `right` are all separators on both of its sides."""
    image = file[page]
    if page in met:
        return (page, "twice")
    if image[0] not in ("leaf", "inner"):
        return (page, "kind")
    levels = [other for _, other in leaves]
    if image[0] == "leaf" and any(other != level for other in levels) or image[0] == "inner" and level in levels:
        return (page, "depth")
    met.append(page)
    if image[0] == "leaf":
        keys = [key for key, _ in image[1]]
        if any(left and key < left[-1] or right and not key < right[0] for key in keys):
            return (page, "order")
        leaves.append((page, level))
        return None
    if any(left and not separator > left[-1] or right and not separator < right[0] for separator in image[1]):
        return (page, "order")
    for at, lower in enumerate(image[2]):
        found = tree_fault_from(file, lower, level + 1, left + list(image[1][:at]), list(image[1][at:]) + right, met,
                                leaves)
        if found is not None:
            return found
    return None


def piece_fault(file, first, length, met):
    page, rest = first, length
    while True:
        if page in met:
            return (page, "twice")
        if file[page][0] != "piece":
            return (page, "kind")
        _, text, following = file[page]
        if len(text) != (8 if rest > 8 else rest):
            return (page, "piece")
        rest -= len(text)
        if following is not None and rest == 0 or following is None and rest > 0:
            return (page, "piece")
        met.append(page)
        if following is None:
            return None
        page = following


def model_cone(rule, sizes, level, page):
    """The leaves of the cone of a page that is not a leaf."""
    lower = model_leading(rule, sizes, level, page)
    if level + 1 == len(sizes) - 1:
        return lower
    long = long_and_short(rule, False)[0]
    return [leaf for other in lower if sizes[level + 1][other] >= long
            for leaf in model_cone(rule, sizes, level + 1, other)]


def model_sum(rule, sizes, pairs, value):
    """The sum of the counts of rows by these needs and prices of the leaves, or None if they are none."""
    if not is_kind(value, tuple):
        return None
    met_leaves, met_pages, in_cones, total = [], [], [], 0
    for row in value:
        if not is_kind(row, tuple) or not row or not is_kind(row[0], str):
            return None
        if any(not is_kind(number, int) for number in row[1:]) or len(row) != {"leaf": 3, "lead": 4}.get(row[0]):
            return None
        if row[0] == "leaf":
            if row[1] not in range(len(sizes[-1])) or row[1] in met_leaves or not 1 <= row[2] <= pairs[row[1]][0]:
                return None
            met_leaves.append(row[1])
        else:
            _, level, page, count = row
            if level not in range(len(sizes) - 1) or page not in range(len(sizes[level])):
                return None
            if not model_asked(rule, sizes, level, page) or (level, page) in met_pages:
                return None
            cone = model_cone(rule, sizes, level, page)
            extras = [pairs[leaf][1] - pairs[leaf][0] for leaf in cone if pairs[leaf][1] is not None]
            if not extras or not 1 <= count <= min(extras) or any(leaf in in_cones for leaf in cone):
                return None
            met_pages.append((level, page))
            in_cones += cone
        total += row[-1]
    return total


def model_played(rule, deeds):
    """The levels to which deeds of keys lead, or the index of the first one that cannot be done."""
    model, there = Model(rule), set()
    for index, deed in enumerate(deeds):
        if not is_kind(deed, tuple) or len(deed) != 2 or not is_kind(deed[0], str) or not plain_key(deed[1]):
            return index
        if deed[0] == "put" and deed[1] not in there:
            model.put(deed[1])
            there.add(deed[1])
        elif deed[0] == "strike" and deed[1] in there:
            model.strike(deed[1])
            there.discard(deed[1])
        else:
            return index
    return model.levels()


def model_shows_strikes(rule, shape, rooms, levels, value):
    """Whether a value shows the fewest strikes of levels with this shape and these rooms."""
    sizes = shape[0]
    if not is_kind(value, tuple) or not value or not is_kind(value[0], str):
        return False
    if value[0] == "room" and len(value) == 2:
        leaf = value[1]
        return is_kind(leaf, int) and 0 <= leaf < len(sizes[-1]) and model_leaf_need(rule, shape, rooms, leaf)[0] is None
    if value[0] == "fault" and len(value) == 2:
        fault = value[1]
        if not is_kind(fault, tuple) or len(fault) != 3 or not is_kind(fault[0], int) or not is_kind(fault[1], int):
            return False
        if not is_kind(fault[2], str) or fault not in model_faults(rule, shape) or fault[0] == len(sizes) - 1:
            return False
        leading = model_leading(rule, sizes, fault[0], fault[1])
        return fault[2] != "lead" or not any(model_ripens(rule, sizes, rooms, fault[0] + 1, low) for low in leading)
    if value[0] != "fewest" or len(value) != 3 or not is_kind(value[1], tuple) or len(value[1]) > 600:
        return False
    if model_played(rule, value[1]) != levels:
        return False
    pairs = [model_leaf_need(rule, shape, rooms, leaf) for leaf in range(len(sizes[-1]))]
    return model_sum(rule, sizes, pairs, value[2]) == sum(1 for word, _ in value[1] if word == "strike")
