"""Drafts: files while a deed changes them."""


class Draft:
    """What a deed changes in a file. The file itself stays as it is, also if the deed is refused in the end."""

    def __init__(self, file):
        self._file = file
        self._images = {}
        self._free = list(file[1][2])
        self._many = len(file)

    def write(self, page, image):
        """Gives a page an image."""
        self._images[page] = image

    def take(self):
        """The page that is taken next: the least free one, or else a new one."""
        if self._free:
            page = self._free[0]
            self._free = self._free[1:]
            return page
        self._many = self._many + 1
        return self._many - 1

    def release(self, pages):
        """Makes pages free."""
        for page in pages:
            self._images[page] = ("free",)
        self._free = sorted(self._free + list(pages))

    def size(self):
        """How many pages the file has then."""
        return self._many

    def changes(self, commit):
        """The ascending tuple of the pairs (page, image) of all pages that change, with the number of the commit."""
        self._images[1] = ("space", self._many, tuple(self._free), commit)
        return tuple([(page, self._images[page]) for page in sorted(self._images) if self.is_other(page)])

    def is_other(self, page):
        """Whether the image of a page changes or is new."""
        return page >= len(self._file) or self._file[page] != self._images[page]
