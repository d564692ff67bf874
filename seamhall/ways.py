"""Ways down a picture: what their steps cost, which cells are open to them, and which of them are the best."""

from seamhall.errors import NoManner, NoMarks
from seamhall.pictures import is_whole, need_picture
from seamhall.worths import gaps, worths

MANNERS = ("worth", "joins")
FREE = 0
KEPT = 1
GONE = 2


def need_manner(thing):
    """Refuse what is no manner."""
    if thing not in MANNERS:
        raise NoManner("a manner is the text worth or the text joins")


def is_mark(thing):
    return is_whole(thing) and FREE <= thing <= GONE


def is_marks_row(thing, wide):
    return isinstance(thing, tuple) and len(thing) == wide and all([is_mark(mark) for mark in thing])


def is_marks(thing, picture):
    """Whether it is a tuple of marks for each row of this picture."""
    if not isinstance(thing, tuple) or len(thing) != len(picture):
        return False
    return all([is_marks_row(row, len(picture[0])) for row in thing])


def all_free(picture):
    """Marks of free cells alone."""
    return ((FREE,) * len(picture[0]),) * len(picture)


def full_marks(thing, picture):
    """The marks that are handed in, written out where None stands for them; NoMarks of other things."""
    if thing is None:
        return all_free(picture)
    if not is_marks(thing, picture):
        raise NoMarks("marks are a tuple of rows as long as the picture's, of 0, 1 and 2")
    return thing


def gone_freed(marks):
    """The marks with all cells free but the kept ones."""
    return tuple([tuple([KEPT if mark == KEPT else FREE for mark in row]) for row in marks])


def is_way(thing, wide, high):
    """Whether it is a seam of pictures of this size; any thing may be asked."""
    if not isinstance(thing, tuple) or len(thing) != high:
        return False
    if not all([is_whole(place) and 0 <= place < wide for place in thing]):
        return False
    return all([abs(thing[y] - thing[y - 1]) <= 1 for y in range(1, high)])


def near(place, wide):
    """The places of a row that are beneath this one of the row above, or next to that."""
    return list(range(max(place - 1, 0), min(place + 2, wide)))


def join_fares(picture, y):
    """The fares of row y by the manner joins."""
    row = picture[y]
    # Into the first row nothing comes from aside: there the row itself may stand for the one above.
    above = picture[max(y - 1, 0)]
    last = len(row) - 1
    told = []
    for x, gap in enumerate(gaps(row)):
        from_left = gap + abs(above[x] - row[max(x - 1, 0)])
        from_right = gap + abs(above[x] - row[min(x + 1, last)])
        told.append((from_left, gap, from_right))
    return told


def fares(picture, manner):
    """For each cell what it costs: a tuple, where the way comes from the left, from above, from the right."""
    if manner == "worth":
        return [[(worth, worth, worth) for worth in row] for row in worths(picture)]
    return [join_fares(picture, y) for y in range(len(picture))]


def fare_of(row, above, place):
    """What the cell at this place of a row of fares costs, where the place in the row above is that one."""
    return row[place][above - place + 1]


def way_cost(table, way):
    """What a way costs by a table of fares."""
    total = fare_of(table[0], way[0], way[0])
    for y in range(1, len(way)):
        total += fare_of(table[y], way[y - 1], way[y])
    return total


def laid_out(picture, manner, marks):
    """The fares and the marks written out; NoPicture, NoManner and NoMarks, in this order."""
    need_picture(picture)
    need_manner(manner)
    marked = full_marks(marks, picture)
    return (fares(picture, manner), marked)


def onward(beneath, row, x):
    """What is told of the cells beneath, as seen from place x above them: with the fares of the steps there."""
    told = []
    for place in near(x, len(beneath)):
        fare = fare_of(row, x, place)
        told += [(less, cost + fare, rest) for less, cost, rest in beneath[place]]
    return told


def swept(table, marks, start, gather):
    """For each cell, from the last row up, what gather(x, told) makes of what is told of the cells beneath.

    Told are tuples (less, cost, rest): less is how many cells to be gone a way has, with a minus, so that the best
    way comes first by Python's order; cost leaves the way's first cell out; rest is gather's own, at first start.
    """
    rows = []
    for y in reversed(range(len(marks))):
        row = []
        for x, mark in enumerate(marks[y]):
            if mark == KEPT:
                told = []
            elif not rows:
                told = gather(x, [(0, 0, start)])
            else:
                told = gather(x, onward(rows[-1], table[y + 1], x))
            lost = 1 if mark == GONE else 0
            row.append([(less - lost, cost, rest) for less, cost, rest in told])
        rows.append(row)
    return rows[::-1]


def best_ways(table, marks, many):
    """For each cell a rising list of the first so many ways from it down: tuples (less, cost, places)."""

    def first_ones(x, told):
        return [(less, cost, (x,) + places) for less, cost, places in sorted(told)[:many]]

    return swept(table, marks, (), first_ones)


def as_good(told):
    """Of tuples (less, cost, how many) the least one, as a list, with how many there are as good; [] of none."""
    if not told:
        return []
    best_less, best_cost = min(told)[:2]
    alike = [many for less, cost, many in told if less == best_less and cost == best_cost]
    return [(best_less, best_cost, sum(alike))]


def best_counts(table, marks):
    """For each cell how many best ways go from it down: a list of one tuple (less, cost, how many), or of none."""
    return swept(table, marks, 1, lambda x, told: as_good(told))


def from_top(table, rows):
    """What rows tell of the first row's cells, in one list, with what these cells cost, too."""
    told = []
    for x, cell in enumerate(rows[0]):
        fare = fare_of(table[0], x, x)
        told += [(less, cost + fare, rest) for less, cost, rest in cell]
    return told


def first_seams(table, marks, many):
    """A rising list of the first so many seams through no kept cell: tuples (less, cost, seam)."""
    return sorted(from_top(table, best_ways(table, marks, many)))[:many]


def least_way(table, marks):
    """The best seam: a tuple (cost, seam); None, where there is none."""
    found = first_seams(table, marks, 1)
    if not found:
        return None
    less, cost, seam = found[0]
    return (cost, seam)
