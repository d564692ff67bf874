"""Pictures narrowed by their best seams, one behind the other, and made again from what was taken."""

from seamhall.errors import NoDeeds, NoWidth
from seamhall.pictures import MOST_LONG, is_whole, need_picture, size_of, turned
from seamhall.seams import cells_along, is_cells, with_cells, without
from seamhall.ways import GONE, all_free, fares, full_marks, is_way, least_way, need_manner

MOST_TAKEN = 4


def need_width(thing, least, most):
    """Refuse what is no width from least to most."""
    if not is_whole(thing) or not least <= thing <= most:
        raise NoWidth(f"the width is to be a whole number from {least} to {most}")


def taken(picture, many, manner, marks):
    """The picture with so many best seams taken, the steps (seam, cells), what the seams cost; None without one."""
    left, marked = picture, marks
    steps = []
    total = 0
    while len(steps) < many:
        found = least_way(fares(left, manner), marked)
        if found is None:
            return None
        cost, seam = found
        steps.append((seam, cells_along(left, seam)))
        total += cost
        left, marked = without(left, seam), without(marked, seam)
    return (left, steps, total)


def taken_to(picture, wide, manner, marks):
    """What taken tells, where the picture is to be so wide; NoPicture, NoManner, NoMarks, NoWidth, in this order."""
    need_picture(picture)
    need_manner(manner)
    marked = full_marks(marks, picture)
    need_width(wide, 1, len(picture[0]))
    return taken(picture, len(picture[0]) - wide, manner, marked)


def narrowed(picture, wide, *, manner="worth", marks=None):
    """The picture with its best seam taken until it is so wide; None, where there is none on the way."""
    told = taken_to(picture, wide, manner, marks)
    if told is None:
        return None
    return told[0]


def history(picture, wide, *, manner="worth", marks=None):
    """A list of tuples (seam, cells) of all that narrowing takes, in order; None, where there is none on the way."""
    told = taken_to(picture, wide, manner, marks)
    if told is None:
        return None
    return told[1]


def loss(picture, wide, *, manner="worth"):
    """What all seams cost by which it is narrowed, each in the picture as it is then."""
    return taken_to(picture, wide, manner, None)[2]


def is_step(thing, wide, high):
    """Whether it is a tuple (seam, cells) of which a picture of this size is made."""
    if not isinstance(thing, tuple) or len(thing) != 2:
        return False
    return is_way(thing[0], wide, high) and is_cells(thing[1], high)


def rebuilt(picture, steps):
    """The picture of which this one was made by such steps: all put back, the last one first."""
    wide, high = size_of(picture)
    if not isinstance(steps, list) or wide + len(steps) > MOST_LONG:
        raise NoDeeds("steps are a list, and no more than leave the picture 20 wide")
    told = picture
    for step in reversed(steps):
        if not is_step(step, len(told[0]) + 1, high):
            raise NoDeeds("a step is a tuple (seam, cells) that can be put back")
        seam, cells = step
        told = with_cells(told, seam, cells)
    return told


def cleared(picture, marks, *, manner="worth"):
    """A list of the best seams, until no cell to be gone is left; None, where that can not be reached."""
    need_picture(picture)
    need_manner(manner)
    left, marked = picture, full_marks(marks, picture)
    seams = []
    while any([GONE in row for row in marked]):
        found = least_way(fares(left, manner), marked)
        if found is None or len(left[0]) == 1:
            return None
        cost, seam = found
        seams.append(seam)
        left, marked = without(left, seam), without(marked, seam)
    return seams


def by_column(picture, manner):
    """What the least seam costs, and the picture without it."""
    left, steps, cost = taken(picture, 1, manner, all_free(picture))
    return (cost, left)


def by_row(picture, manner):
    """What the least seam of the picture turned costs, and the picture without it, turned back."""
    cost, left = by_column(turned(picture), manner)
    return (cost, turned(left))


def is_order(thing, picture):
    """Whether it is a text of signs c and r that leaves something of the picture."""
    if not isinstance(thing, str) or not all([sign in ("c", "r") for sign in thing]):
        return False
    return thing.count("c") < len(picture[0]) and thing.count("r") < len(picture)


def by_order(picture, text, *, manner="worth"):
    """The picture when the least seams were taken by this order."""
    need_picture(picture)
    need_manner(manner)
    if not is_order(text, picture):
        raise NoDeeds("an order is a text of signs c and r that leaves something of the picture")
    left = picture
    for sign in text:
        cost, left = by_column(left, manner) if sign == "c" else by_row(left, manner)
    return left


def best_from(picture, down, across, manner):
    """The least tuple (cost, text) of all orders of so many r and c."""
    if down == 0 and across == 0:
        return (0, "")
    told = []
    if across > 0:
        cost, left = by_column(picture, manner)
        rest, text = best_from(left, down, across - 1, manner)
        told.append((cost + rest, "c" + text))
    if down > 0:
        cost, left = by_row(picture, manner)
        rest, text = best_from(left, down - 1, across, manner)
        told.append((cost + rest, "r" + text))
    return min(told)


def best_order(picture, down, across, *, manner="worth"):
    """Of all orders of across c and down r that in which all seams together cost least: a tuple (cost, text)."""
    wide, high = size_of(picture)
    need_manner(manner)
    need_width(down, 0, min(MOST_TAKEN, high - 1))
    need_width(across, 0, min(MOST_TAKEN, wide - 1))
    return best_from(picture, down, across, manner)
