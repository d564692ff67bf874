"""Logs: desks made again from their deeds, and first pictures from what went and came."""

from seamhall.desks import Desk, is_deed
from seamhall.errors import NoBox, NoDeeds, NoRoom, NoWay
from seamhall.pictures import MOST_LONG, turned
from seamhall.seams import seam_behind, with_cells, without


def is_deeds(thing):
    """Whether it is a list of deeds, whether they can be done or not; any thing may be asked."""
    return isinstance(thing, list) and all([is_deed(part) for part in thing])


def replayed(picture, deeds, *, manner="worth"):
    """The desk of these deeds."""
    desk = Desk(picture, manner=manner)
    if not is_deeds(deeds):
        raise NoDeeds("deeds are a list of tuples as the log of a desk tells them")
    for deed in deeds:
        try:
            desk.do_deed(deed)
        except (NoBox, NoRoom, NoWay):
            raise NoDeeds("a deed can not be done") from None
    return desk


def ahead_of(step, picture):
    """The picture as it was ahead of this step of a desk."""
    word, seam, cells = step
    if word == "narrow":
        return with_cells(picture, seam, cells)
    if word == "flatten":
        return turned(with_cells(turned(picture), seam, cells))
    return without(picture, seam_behind(seam))


def origin_of(desk):
    """The picture with which the desk began, made again from the picture that it is and its steps alone."""
    picture = desk.picture()
    for step in reversed(desk.steps()):
        picture = ahead_of(step, picture)
    return picture


def fitted(picture, wide, high, *, manner="worth"):
    """A desk narrowed, or widened, to so wide; then, if it is so wide, flattened to high; as far as that can be."""
    desk = Desk(picture, manner=manner)
    # All cells of a new desk are free, so there is always a way, and room alone sets an end to this.
    while desk.size()[0] > max(wide, 1):
        desk.narrow()
    while desk.size()[0] < min(wide, MOST_LONG):
        desk.widen()
    if desk.size()[0] == wide:
        while desk.size()[1] > max(high, 1):
            desk.flatten()
    return desk
