"""Writes levels, images and files as texts, and trees as tables."""

from splitscar.levels import sizes_of
from splitscar.words import show_string


def show_levels(levels):
    """The text of levels: a line for each level."""
    return "\n".join([" | ".join([show_page(page) for page in pages]) for pages in levels])


def show_page(page):
    """The integers of a page, or "-" if it has none."""
    if not page:
        return "-"
    return " ".join([str(integer) for integer in page])


def show_file(file):
    """The text of a file: a line for each image."""
    return "\n".join([show_image(image) for image in file])


def show_image(image):
    """The line of an image."""
    name = image[0]
    if name == "space":
        words = [image[1], image[3]] + list(image[2])
    elif name == "leaf":
        words = leaf_words(image[1], image[2])
    elif name == "inner":
        words = inner_words(image[1], image[2])
    elif name == "piece":
        words = [show_link(image[2]), show_string(image[1])]
    else:
        words = list(image[1:])
    shown = [str(word) for word in words]
    return " ".join([name, *shown])


def leaf_words(records, right):
    """The words of a leaf behind its name."""
    words = [show_link(right)]
    for key, held in records:
        words.append(key)
        words.append(show_held(held))
    return words


def inner_words(separators, lower):
    """The words of an inner page behind its name: pages and separators by turns."""
    words = [lower[0]]
    for separator, page in zip(separators, lower[1:]):
        words.append(separator)
        words.append(page)
    return words


def show_link(page):
    """The number of a page, or "-" for None."""
    return "-" if page is None else str(page)


def show_held(held):
    """What a record holds: a string, or the place of a long value."""
    if isinstance(held, str):
        return show_string(held)
    return f"@{held[1]}:{held[2]}"


def table_of(tree):
    """A line for each page of a tree: its level, number, size and least integer."""
    sizes = sizes_of(tree.levels)
    lines = []
    for level, page, integers in tree.walk():
        least = str(integers[0]) if integers else "-"
        lines.append(f"{level:>3} {page:>4} {sizes[level][page]:>3} {least:>16}")
    return "\n".join(lines)
