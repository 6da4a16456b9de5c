"""Backups: copies of the pages of a store with a log, made while it goes on."""

from splitscar.commits import applied
from splitscar.errors import LogGap, NotFinished, NotWritten, TooEarly
from splitscar.kinds import is_integer


class Backup:
    """A backup that begins with a checkpoint. Its pages are those that the media have then."""

    def __init__(self, store):
        store.checkpoint()
        self._store = store
        self._start = store.commit
        self._copies = {page: None for page in store.media.pages}

    @property
    def started(self):
        return self._start

    @property
    def missing(self):
        return tuple([page for page in sorted(self._copies) if self._copies[page] is None])

    def fetch(self, *pages):
        """Copies these pages as they are on the media, or all missing ones if none is told."""
        for page in pages:
            if not is_integer(page) or page not in self._copies:
                raise NotWritten(page)
        images = self._store.media.pages
        chosen = pages if pages else self.missing
        for page in chosen:
            self._copies[page] = images[page]

    def finish(self):
        """(start, end, copies, entries), with the entries after the start."""
        missing = self.missing
        if missing:
            raise NotFinished(missing[0])
        copies = tuple([self._copies[page] for page in sorted(self._copies)])
        entries = tuple([entry for entry in self._store.entries if entry[0] > self._start])
        return self._start, self._store.commit, copies, entries


def restored(backup, entries=(), *, upto=None):
    """The file after the commit `upto`, or after the end of the backup, with the help of later entries."""
    _, end, copies, known = backup
    if upto is not None and upto < end:
        raise TooEarly(upto)
    by_number = {entry[0]: entry for entry in entries}
    following = []
    number = end + 1
    while upto is not None and number <= upto:
        if number not in by_number:
            raise LogGap(number)
        following.append(by_number[number])
        number = number + 1
    every = known + tuple(following)
    return applied(copies, *every)
