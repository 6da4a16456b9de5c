"""Stores whose commits are written to a log, so that they are not lost when the power fails."""

from splitscar.media import Media
from splitscar.recovery import mended, recovered
from splitscar.store import Store


class LoggedStore(Store):
    """A store with media. A deed writes its entry before it returns; pages are flushed when this is asked for."""

    def __init__(self, rule):
        super().__init__(rule)
        self._state = {**self._state, "media": Media.blank(), "entries": ()}

    @classmethod
    def of(cls, rule, file):
        """A store that goes on with a sound file whose pages are all written."""
        store = cls(rule)
        store._state = {**store._state, "file": file, "media": Media.of(file)}
        return store

    @classmethod
    def recover(cls, rule, media):
        """A store with the recovered file of media, and with these media, mended."""
        store = cls(rule)
        file, whole = recovered(media), mended(media)
        store._state = {**store._state, "file": file, "media": whole, "entries": whole.entries}
        return store

    def state_behind(self, entry):
        state = super().state_behind(entry)
        return {**state, "media": self.media.wrote(entry), "entries": self.entries + (entry,)}

    @property
    def media(self):
        return self._state["media"]

    @property
    def entries(self):
        return self._state["entries"]

    def flush(self, *pages):
        """Flushes these pages in this order, or all dirty pages if none is told."""
        chosen = pages if pages else self.media.dirty
        self.step([("flush", page) for page in chosen])

    def checkpoint(self):
        """Flushes the dirty pages and cuts the log."""
        self.step(self.media.checkpoint())

    def step(self, steps):
        """Does steps with the media, all of them or none."""
        self._state = {**self._state, "media": self.media.after(*steps)}
