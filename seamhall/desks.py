"""Desks: a picture with its marks, on which deeds are done one by one, taken back and done again."""

from seamhall.errors import NoBack, NoBox, NoRoom, NoWay
from seamhall.pictures import MOST_LONG, is_whole, need_picture, size_of, turned
from seamhall.seams import cells_along, means_along, seam_behind, with_cells, without
from seamhall.ways import FREE, GONE, KEPT, all_free, fares, least_way, need_manner

BOX_WORDS = ("keep", "drop", "free")


def best_seam(picture, marks, manner):
    """The best seam; NoWay, where there is none."""
    found = least_way(fares(picture, manner), marks)
    if found is None:
        raise NoWay("every way down meets a kept cell")
    return found[1]


def narrow_once(picture, marks, manner):
    """The picture and its marks without the best seam, this seam, and the cells that went."""
    if len(picture[0]) == 1:
        raise NoRoom(1)
    seam = best_seam(picture, marks, manner)
    return (without(picture, seam), without(marks, seam), seam, cells_along(picture, seam))


def flatten_once(picture, marks, manner):
    """What narrow_once tells of the picture and the marks turned, both turned back."""
    left, marked, seam, cells = narrow_once(turned(picture), turned(marks), manner)
    return (turned(left), turned(marked), seam, cells)


def widen_once(picture, marks, manner):
    """The picture doubled at the best seam, its marks with free new cells, this seam, and the cells that came."""
    if len(picture[0]) == MOST_LONG:
        raise NoRoom(MOST_LONG)
    seam = best_seam(picture, marks, manner)
    behind = seam_behind(seam)
    cells = means_along(picture, seam)
    return (with_cells(picture, behind, cells), with_cells(marks, behind, (FREE,) * len(seam)), seam, cells)


SEAM_DEEDS = {"narrow": narrow_once, "flatten": flatten_once, "widen": widen_once}


def is_deed(thing):
    """Whether it is a deed as logs tell it, whether it can be done or not; any thing may be asked."""
    if not isinstance(thing, tuple) or not thing or not isinstance(thing[0], str):
        return False
    if thing[0] in BOX_WORDS:
        return len(thing) == 5 and all([is_whole(part) for part in thing[1:]])
    return thing[0] in SEAM_DEEDS and len(thing) == 1


def is_reach(start, many, most):
    """Whether so many places, one at least, from start on lie within so many as there are."""
    return is_whole(start) and is_whole(many) and start >= 0 and many >= 1 and start + many <= most


def mark_by(word):
    """The mark of the cells of a box by this deed."""
    if word == "keep":
        return KEPT
    if word == "drop":
        return GONE
    return FREE


def boxed(marks, box, mark):
    """The marks with this mark in the box, and how many cells of it were marked otherwise."""
    x, y, wide, high = box
    if not is_reach(x, wide, len(marks[0])) or not is_reach(y, high, len(marks)):
        raise NoBox("a box lies in the picture, and is one wide and one high at least")
    rows = list(marks)
    others = 0
    for at in range(y, y + high):
        row = marks[at]
        others += len([other for other in row[x:x + wide] if other != mark])
        rows[at] = row[:x] + (mark,) * wide + row[x + wide:]
    return (tuple(rows), others)


class Desk:
    """A picture and its marks, and all deeds that were done with them.

    A page is a tuple (deed, picture, marks, step): how things stand behind a deed; its step is None, where no seam
    was taken or doubled. The first page is that of no deed. What was taken back are the pages behind the one in force.
    """

    def __init__(self, picture, *, manner="worth"):
        need_picture(picture)
        need_manner(manner)
        self.manner = manner
        self.pages = [(None, picture, all_free(picture), None)]
        self.at = 0

    def __eq__(self, other):
        if not isinstance(other, Desk):
            return False
        return self.began() == other.began() and self.manner == other.manner and self.log() == other.log()

    def __len__(self):
        return len(self.log())

    def __str__(self):
        return f"{self.size()[0]}x{self.size()[1]}"

    def began(self):
        """The picture with which the desk began."""
        return self.pages[0][1]

    def picture(self):
        """The picture as it is."""
        return self.pages[self.at][1]

    def marks(self):
        """The marks as they are."""
        return self.pages[self.at][2]

    def size(self):
        """How wide and how high the picture is."""
        return size_of(self.picture())

    def pages_done(self):
        """The pages of all deeds that are not taken back."""
        return self.pages[1:self.at + 1]

    def log(self):
        """A list of all deeds."""
        return [deed for deed, picture, marks, step in self.pages_done()]

    def steps(self):
        """A list of tuples (word, seam, cells) of all that narrow, flatten and widen did."""
        return [step for deed, picture, marks, step in self.pages_done() if step is not None]

    def counts(self):
        """How many deeds can be taken back, and how many done again."""
        return (self.at, len(self.pages) - 1 - self.at)

    def turn_to(self, page):
        """Put a new page behind the one in force; what was taken back can not be done again then."""
        self.pages[self.at + 1:] = [page]
        self.at += 1

    def mark_box(self, deed):
        """Do keep, drop or free."""
        marked, others = boxed(self.marks(), deed[1:], mark_by(deed[0]))
        self.turn_to((deed, self.picture(), marked, None))
        return others

    def go_along(self, deed):
        """Do narrow, flatten or widen."""
        once = SEAM_DEEDS[deed[0]]
        made, marked, seam, cells = once(self.picture(), self.marks(), self.manner)
        self.turn_to((deed, made, marked, (deed[0], seam, cells)))
        return seam

    def do_deed(self, deed):
        """Do a deed as logs tell it; told is what it tells."""
        if deed[0] in BOX_WORDS:
            return self.mark_box(deed)
        return self.go_along(deed)

    def keep(self, x, y, *, wide=1, high=1):
        """No seam goes through the cells of this box; told is how many of them were marked otherwise."""
        return self.do_deed(("keep", x, y, wide, high))

    def drop(self, x, y, *, wide=1, high=1):
        """The cells of this box are to be gone; told is how many of them were marked otherwise."""
        return self.do_deed(("drop", x, y, wide, high))

    def free(self, x, y, *, wide=1, high=1):
        """The cells of this box are free; told is how many of them were marked otherwise."""
        return self.do_deed(("free", x, y, wide, high))

    def narrow(self):
        """The best seam goes; told is it."""
        return self.do_deed(("narrow",))

    def flatten(self):
        """The best seam of the picture turned goes; told is it."""
        return self.do_deed(("flatten",))

    def widen(self):
        """The picture is doubled at the best seam; told is it."""
        return self.do_deed(("widen",))

    def back(self):
        """Take the last deed back; told is it."""
        if self.at == 0:
            raise NoBack("there is no deed to be taken back")
        self.at -= 1
        return self.pages[self.at + 1][0]

    def forth(self):
        """Do the deed again that was taken back last; told is it."""
        if self.at + 1 == len(self.pages):
            raise NoBack("there is no deed to be done again")
        self.at += 1
        return self.pages[self.at][0]

    def twin(self):
        """A desk that is as this one; from then on each goes by itself."""
        other = Desk(self.began(), manner=self.manner)
        other.pages = list(self.pages)
        other.at = self.at
        return other
