"""Recovery: the file that media tell after a fall."""

from splitscar.errors import NotRecoverable
from splitscar.kinds import is_same
from splitscar.media import TORN


def recovered(media):
    """The recovered file: the last images of as many pages as that of page 1 tells."""
    images = []
    for page in range(readable_image(media, 1)[1]):
        images.append(readable_image(media, page))
    return tuple(images)


def readable_image(media, page):
    """The last image of a page; raises NotRecoverable if it is missing or torn."""
    image = media.last_image(page)
    if image is None or image == TORN:
        raise NotRecoverable(page)
    return image


def mended(media):
    """The media without a torn end of the log."""
    return media.without_torn_log()


def recovery_right(media, value):
    """Whether any value is the recovered file; False also if there is none."""
    try:
        file = recovered(media)
    except NotRecoverable:
        return False
    return is_same(file, value)
