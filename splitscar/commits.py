"""Commits: what deeds change in files, page by page."""

from splitscar.deeds import is_deed
from splitscar.drafts import Draft
from splitscar.entries import new_tree_pages
from splitscar.errors import Full, InvalidDeed, NoKey
from splitscar.images import page_rows, path_to
from splitscar.kinds import KEY_LEAST, KEY_MOST
from splitscar.levels import index_below
from splitscar.packing import packed_levels
from splitscar.scans import held_between, keys_between
from splitscar.values import SHORT_MOST, held_pages, parts_of

MOST_RECORDS = 300
MOST_TREE = 400
MOST_PAGES = 900


def entry_of(rule, file, deed):
    """The entry of the commit that a deed makes in a sound file."""
    if not is_deed(deed):
        raise InvalidDeed(deed)
    commit = file[1][3] + 1
    draft = Draft(file)
    struck = ()
    if deed[0] == "put":
        put_record(rule, file, draft, deed[1], deed[2])
    elif deed[0] == "rebuild":
        rebuild_tree(rule, file, draft, commit)
    else:
        # Of the keys, a strike has one and a range two.
        struck = keys_between(file, deed[1], deed[-1])
        if deed[0] == "strike" and not struck:
            raise NoKey(deed[1])
        strike_records(file, draft, deed[1], deed[-1])
    changes = draft.changes(commit)
    check_room(file, deed, changes, draft.size())
    return commit, deed, struck, changes


def check_room(file, deed, changes, many):
    """Raises Full if a deed makes the tree, or the file of then so many pages, larger than they may be."""
    tree = len(new_tree_pages(file, changes))
    if tree > 0 and deed[0] == "put":
        tree = tree + len([image for image in file if image[0] in ("leaf", "inner")])
    if tree > MOST_TREE:
        raise Full(MOST_TREE)
    if many > max(MOST_PAGES, len(file)):
        raise Full(MOST_PAGES)


def applied(file, *entries):
    """The file with the changes of the entries, in order."""
    images = list(file)
    for entry in entries:
        for page, image in entry[3]:
            images[page:page + 1] = [image]
    return tuple(images)


def put_record(rule, file, draft, key, value):
    """Puts a key with a value, or replaces the value of a key that is there."""
    path = path_to(file, key)
    records, right = file[path[-1]][1:]
    at = index_below([stored for stored, _ in records], key)
    if at > 0 and records[at - 1][0] == key:
        draft.release(held_pages(file, records[at - 1][1]))
        rest = records[:at - 1]
    elif count_records(file) >= MOST_RECORDS:
        raise Full(MOST_RECORDS)
    else:
        rest = records[:at]
    records = rest + ((key, hold(draft, value)),) + records[at:]
    write_path(rule, file, draft, path, records, right)


def count_records(file):
    """The number of the records of a file."""
    return sum([len(image[1]) for image in file if image[0] == "leaf"])


def hold(draft, value):
    """Takes a page for each piece of a long value; returns what the record holds."""
    if len(value) <= SHORT_MOST:
        return value
    parts = parts_of(value)
    pages = [draft.take() for _ in parts]
    for at, part in enumerate(parts):
        draft.write(pages[at], ("piece", part, pages[at + 1] if at + 1 < len(pages) else None))
    return "at", pages[0], len(value)


def write_path(rule, file, draft, path, records, right):
    """Writes a leaf and, as far as pages are split, those above it."""
    up = write_leaf(rule, draft, path[-1], records, right)
    for page in path[-2::-1]:
        if up:
            up = write_inner(rule, draft, page, file[page], up)
    if up:
        root = draft.take()
        draft.write(root, ("inner", up[:1], (path[0], up[1])))
        draft.write(0, ("head", root, file[0][2]))


def write_leaf(rule, draft, page, records, right):
    """Writes a leaf. If it is split, returns (separator, page) of the new leaf, otherwise ()."""
    if len(records) <= rule.leaf_most:
        draft.write(page, ("leaf", records, right))
        return ()
    old, new = rule.leaf_parts(records)
    taken = draft.take()
    draft.write(page, ("leaf", old, taken))
    draft.write(taken, ("leaf", new, right))
    return new[0][0], taken


def write_inner(rule, draft, page, image, up):
    """Writes a page with one more page below it. If it is split, returns (separator, page) of the new one."""
    separators, lower = image[1:]
    at = index_below(separators, up[0])
    separators = separators[:at] + up[:1] + separators[at:]
    lower = lower[:at + 1] + up[1:] + lower[at + 1:]
    if len(lower) <= rule.page_most:
        draft.write(page, ("inner", separators, lower))
        return ()
    old, separator, new = rule.parts(separators)
    taken = draft.take()
    draft.write(page, ("inner", old, lower[:rule.page_left]))
    draft.write(taken, ("inner", new, lower[rule.page_left:]))
    return separator, taken


def strike_records(file, draft, low, high):
    """Strikes all keys from low to high."""
    page = path_to(file, low)[-1]
    while page is not None:
        records, right = file[page][1:]
        rest = tuple([record for record in records if not low <= record[0] <= high])
        for key, held in records:
            if low <= key <= high:
                draft.release(held_pages(file, held))
        draft.write(page, ("leaf", rest, right))
        page = None if records and records[-1][0] > high else right


def rebuild_tree(rule, file, draft, commit):
    """Puts the table into a new tree with packed levels."""
    held_records = tuple(held_between(file, KEY_LEAST, KEY_MOST))
    levels = packed_levels(rule, tuple([key for key, _ in held_records]))
    draft.write(0, ("head", write_levels(draft, levels, held_records), commit))
    draft.release([page for row in page_rows(file) for page in row])


def write_levels(draft, levels, held_records):
    """Writes the pages of levels, from the leaves to the root; returns the page of the root."""
    taken = [draft.take() for _ in levels[-1]]
    start = 0
    for at, leaf in enumerate(levels[-1]):
        right = taken[at + 1] if at + 1 < len(taken) else None
        draft.write(taken[at], ("leaf", held_records[start:start + len(leaf)], right))
        start = start + len(leaf)
    for pages in levels[-2::-1]:
        lower = taken
        taken = [draft.take() for _ in pages]
        start = 0
        for at, separators in enumerate(pages):
            end = start + len(separators) + 1
            draft.write(taken[at], ("inner", separators, tuple(lower[start:end])))
            start = end
    return taken[0]
