"""Checks whether any value is a sound file, and what its tree is."""

from splitscar.errors import NotSound
from splitscar.images import is_image, levels_of, page_rows
from splitscar.kinds import KEY_LEAST, KEY_MOST
from splitscar.trees import known_tree
from splitscar.values import SHORT_MOST

LEAST_PAGES = 3
MOST_PAGES = 900
FIRST_PAGE = 2


def file_fault(rule, value):
    """The file fault of any value, or None."""
    if not isinstance(value, tuple) or not LEAST_PAGES <= len(value) <= MOST_PAGES:
        return -1, "form"
    for page, image in enumerate(value):
        if not is_image(image) or not can_stand(rule, value, page):
            return page, "image"
    survey = Survey(value)
    return survey.fault_of_tree() or survey.fault_of_rights() or survey.fault_of_values() or survey.fault_of_rest()


def can_stand(rule, file, page):
    """Whether the image of a page can stand there; those of the pages before it can."""
    image = file[page]
    name = image[0]
    if not all([FIRST_PAGE <= other < len(file) for other in pages_told(image)]):
        return False
    if page == 0:
        return name == "head"
    if page == 1:
        return name == "space" and image[1] == len(file) and image[3] >= file[0][2]
    if name == "leaf":
        return len(image[1]) <= rule.leaf_most
    if name == "inner":
        return len(image[2]) <= rule.page_most
    return name in ("piece", "free")


def pages_told(image):
    """The list of all numbers of pages in an image, but for the number of all pages."""
    name = image[0]
    if name == "head":
        return [image[1]]
    if name == "leaf":
        return links(image[2]) + [held[1] for key, held in image[1] if isinstance(held, tuple)]
    if name == "piece":
        return links(image[2])
    return [] if name == "free" else list(image[2])


def links(page):
    """The list of a page, empty for None."""
    return [] if page is None else [page]


class Survey:
    """A look at a file whose images can stand where they do: first at the tree, then at the values, then at the rest.

    `met` are the pages that were met so far, and `leaves` the leaves, from the left.
    """

    def __init__(self, file):
        self._file = file
        self._met = {}
        self._leaves = []
        self._leaf_level = None

    def fault_of_tree(self):
        """The fault of the first page of the tree that has one, or None."""
        rest = [(self._file[0][1], 0, KEY_LEAST - 1, KEY_MOST + 1)]
        while rest:
            page, level, low, high = rest.pop()
            word = self.word_of_page(page, level, low, high)
            if word is not None:
                return page, word
            self._met[page] = True
            image = self._file[page]
            if image[0] == "leaf":
                self._leaves.append(page)
                self._leaf_level = level
            else:
                # The last one is looked at first, so the leftmost page stands at the end.
                rest.extend(below(image, level + 1, low, high)[::-1])
        return None

    def word_of_page(self, page, level, low, high):
        """The first word of the faults of a page of the tree, or None."""
        if page in self._met:
            return "twice"
        image = self._file[page]
        if image[0] not in ("leaf", "inner"):
            return "kind"
        if self._leaf_level is not None and (image[0] == "leaf") != (level == self._leaf_level):
            return "depth"
        if image[0] == "leaf":
            in_order = all([low <= key < high for key, held in image[1]])
        else:
            in_order = all([low < separator < high for separator in image[1]])
        return None if in_order else "order"

    def fault_of_rights(self):
        """The fault of the first leaf that does not name the next one, or None."""
        following = self._leaves[1:] + [None]
        for page, right in zip(self._leaves, following):
            if self._file[page][2] != right:
                return page, "right"
        return None

    def fault_of_values(self):
        """The fault of the first piece that has one, or None."""
        for leaf in self._leaves:
            for _, held in self._file[leaf][1]:
                if isinstance(held, tuple):
                    found = self.fault_of_pieces(held[1], held[2])
                    if found is not None:
                        return found
        return None

    def fault_of_pieces(self, first, length):
        """The fault of the first piece of a value of this length that has one, or None."""
        page, rest = first, length
        while page is not None:
            word = self.word_of_piece(page, rest)
            if word is not None:
                return page, word
            self._met[page] = True
            text, page = self._file[page][1:]
            rest = rest - len(text)
        return None

    def word_of_piece(self, page, rest):
        """The first word of the faults of a piece, if so many characters are left, or None."""
        if page in self._met:
            return "twice"
        image = self._file[page]
        if image[0] != "piece":
            return "kind"
        is_last = rest <= SHORT_MOST
        if len(image[1]) != min(SHORT_MOST, rest) or (image[2] is None) != is_last:
            return "piece"
        return None

    def fault_of_rest(self):
        """The fault of the first page that is lost, or that of the free pages, or None."""
        rest = [page for page in range(FIRST_PAGE, len(self._file)) if page not in self._met]
        for page in rest:
            if self._file[page] != ("free",):
                return page, "lost"
        return None if list(self._file[1][2]) == rest else (1, "free")


def below(image, level, low, high):
    """The pages below a page between these bounds: the list of each one with its level and its own bounds."""
    separators, lower = image[1:]
    lows, highs = (low, *separators), (*separators, high)
    return [(page, level, lows[at], highs[at]) for at, page in enumerate(lower)]


def is_sound(rule, value):
    """Whether any value is a sound file of the rule."""
    return file_fault(rule, value) is None


def check_sound(rule, value):
    """Raises NotSound with the file fault of any value that has one."""
    found = file_fault(rule, value)
    if found is not None:
        raise NotSound(found[0], found[1])


def tree_of(rule, value):
    """The tree of a sound file."""
    check_sound(rule, value)
    return known_tree(rule, levels_of(value))


def leaf_pages(rule, value):
    """The numbers of the pages of the leaves of a sound file, from the left."""
    check_sound(rule, value)
    return tuple(page_rows(value)[-1])
