"""All seams through no kept cell: in Python's order, by their numbers, and the best ones of them."""

from seamhall.errors import NoNumber
from seamhall.pictures import is_whole, need_picture
from seamhall.seams import need_seam
from seamhall.ways import KEPT, best_counts, first_seams, full_marks, gone_freed, laid_out, near, way_cost

MOST_SEAMS = 60


def counts_down(marks):
    """For each cell how many ways go from it down through no kept cell."""
    # Where nothing costs anything, and no cell is to be gone, all ways are the best ones.
    costless = [[(0, 0, 0) for mark in row] for row in marks]
    rows = best_counts(costless, gone_freed(marks))
    return [[sum([many for less, cost, many in told]) for told in row] for row in rows]


def how_many(picture, *, marks=None):
    """How many seams go through no kept cell."""
    need_picture(picture)
    return sum(counts_down(full_marks(marks, picture))[0])


def seam_at(picture, number, *, marks=None):
    """The seam of this number, from 0 on, of all those through no kept cell in Python's order."""
    need_picture(picture)
    counts = counts_down(full_marks(marks, picture))
    if not is_whole(number) or not 0 <= number < sum(counts[0]):
        raise NoNumber("there is no seam of this number")
    ahead = number
    places = list(range(len(counts[0])))
    seam = []
    for row in counts:
        at = 0
        while ahead >= row[places[at]]:
            ahead -= row[places[at]]
            at += 1
        seam.append(places[at])
        places = near(places[at], len(row))
    return tuple(seam)


def meets_kept(seam, marks):
    return any([row[place] == KEPT for row, place in zip(marks, seam)])


def number_of(picture, seam, *, marks=None):
    """The seam's number among those through no kept cell; None, where it goes through one."""
    need_picture(picture)
    marked = full_marks(marks, picture)
    need_seam(seam, picture)
    if meets_kept(seam, marked):
        return None
    places = list(range(len(picture[0])))
    number = 0
    for row, at in zip(counts_down(marked), seam):
        number += sum([row[place] for place in places if place < at])
        places = near(at, len(row))
    return number


def best_seams(picture, many, *, manner="worth", marks=None):
    """A rising list of tuples (cost, seam), the first so many of all seams through no kept cell, or all."""
    table, marked = laid_out(picture, manner, marks)
    if not is_whole(many) or not 1 <= many <= MOST_SEAMS:
        raise NoNumber("many is a whole number from 1 to 60")
    return [(cost, seam) for less, cost, seam in first_seams(table, gone_freed(marked), many)]


def is_least(picture, seam, *, manner="worth", marks=None):
    """Whether the seam goes through no kept cell, and none of those that do so is cheaper."""
    table, marked = laid_out(picture, manner, marks)
    need_seam(seam, picture)
    if meets_kept(seam, marked):
        return False
    less, cost, first = first_seams(table, gone_freed(marked), 1)[0]
    return way_cost(table, seam) == cost
