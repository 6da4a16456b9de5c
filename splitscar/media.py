"""Media: what is left of a store when the power fails."""

from splitscar.entries import is_entry
from splitscar.errors import NotWritten, WrongStep
from splitscar.images import empty_file
from splitscar.kinds import is_integer

TORN = ("torn",)


class Media:
    """The images of pages, the number of a commit as the base, and a log. Media never change.

    `latest` has, for each page that an entry of the log changes, the image in the last such entry.
    """

    def __init__(self, pages, base, log, latest):
        self._pages = pages
        self._base = base
        self._log = log
        self._latest = latest

    @classmethod
    def of(cls, file):
        """The media of a file whose pages are all written."""
        return cls({page: image for page, image in enumerate(file)}, file[1][3], (), {})

    @classmethod
    def blank(cls):
        """The media of the empty file."""
        return cls.of(empty_file())

    @property
    def pages(self):
        return {page: self._pages[page] for page in sorted(self._pages)}

    @property
    def base(self):
        return self._base

    @property
    def log(self):
        return self._log

    @property
    def entries(self):
        return self._log[:-1] if self.is_torn() else self._log

    @property
    def last(self):
        return self._base + len(self.entries)

    @property
    def dirty(self):
        return tuple([page for page in sorted(self._latest) if self.is_dirty(page)])

    def is_torn(self):
        """Whether the log ends in the midst of an entry."""
        return len(self._log) > 0 and self._log[-1] == TORN

    def is_dirty(self, page):
        """Whether any value is a dirty page."""
        if not is_integer(page) or page not in self._latest:
            return False
        return page not in self._pages or self._pages[page] != self._latest[page]

    def wrote(self, entry):
        """The media after the step that writes an entry."""
        if self.is_torn():
            raise WrongStep("torn")
        if not is_entry(entry) or entry[0] != self.last + 1:
            raise WrongStep("commit")
        latest = dict(self._latest)
        for page, image in entry[3]:
            latest[page] = image
        return Media(self._pages, self._base, self._log + (entry,), latest)

    def flushed(self, page):
        """The media after the step that writes the last image of a dirty page."""
        if not self.is_dirty(page):
            raise WrongStep("clean")
        return Media({**self._pages, page: self._latest[page]}, self._base, self._log, self._latest)

    def cut(self):
        """The media after the step that removes the entries."""
        if self.is_torn():
            raise WrongStep("torn")
        if self.dirty:
            raise WrongStep("dirty")
        return Media(self._pages, self.last, (), {})

    def after(self, *steps):
        """The media after these steps, one after another."""
        media = self
        for step in steps:
            media = media.stepped(step)
        return media

    def stepped(self, step):
        """The media after a step."""
        if step[0] == "write":
            return self.wrote(step[1])
        if step[0] == "flush":
            return self.flushed(step[1])
        return self.cut()

    def checkpoint(self):
        """The tuple of the steps of a checkpoint."""
        return tuple([("flush", page) for page in self.dirty]) + (("cut",),)

    def damaged(self, *pages):
        """The media with torn images of these pages."""
        for page in pages:
            if not is_integer(page) or page not in self._pages:
                raise NotWritten(page)
        return self.with_torn_pages(pages)

    def with_torn_pages(self, pages):
        """The media with torn images of these pages, which need not be written before."""
        images = dict(self._pages)
        for page in pages:
            images[page] = TORN
        return Media(images, self._base, self._log, self._latest)

    def with_torn_log(self):
        """The media with the torn part of an entry at the end of the log."""
        return Media(self._pages, self._base, self._log + (TORN,), self._latest)

    def without_torn_log(self):
        """The media without such a part."""
        return Media(self._pages, self._base, self.entries, self._latest)

    def last_image(self, page):
        """The last image of a page, torn if it is so on the media, or None if there is none."""
        return self._latest.get(page, self._pages.get(page))

    def __eq__(self, other):
        if not isinstance(other, Media):
            return False
        return self._pages == other._pages and self._base == other._base and self._log == other._log

    def __repr__(self):
        return f"Media({len(self._pages)} pages, {len(self.entries)} entries, {len(self.dirty)} dirty)"
