"""Falls: what is left of media when the power fails during a step."""


def falls(media, step):
    """Yields the media that a fall during the step can leave: first those before it, at last those after it."""
    later = media.stepped(step)
    yield media
    if step[0] == "write":
        yield media.with_torn_log()
    if step[0] == "flush":
        yield media.with_torn_pages(step[1:])
    yield later
