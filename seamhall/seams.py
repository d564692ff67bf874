"""Seams: what they cost, the least one, and pictures cut along them and put together again."""

from seamhall.errors import NoCells, NoPictures, NoSeam
from seamhall.pictures import MOST_LONG, is_cell, is_picture, need_picture, size_of
from seamhall.ways import all_free, as_good, best_counts, best_ways, fares, from_top, is_way
from seamhall.ways import laid_out, least_way, need_manner, way_cost


def is_seam(thing, picture):
    """Whether it is a seam of the picture; any thing may be asked."""
    wide, high = size_of(picture)
    return is_way(thing, wide, high)


def need_seam(thing, picture):
    """Refuse what is no seam of the picture."""
    if not is_seam(thing, picture):
        raise NoSeam("a seam is a tuple of a place for each row, each at most 1 beside the one above")


def cost_of(picture, seam, *, manner="worth"):
    """What the seam costs."""
    need_picture(picture)
    need_manner(manner)
    need_seam(seam, picture)
    return way_cost(fares(picture, manner), seam)


def least_seam(picture, *, manner="worth", marks=None):
    """The best seam: the most cells to be gone, then the cheapest, then the first; None, where there is none."""
    table, marked = laid_out(picture, manner, marks)
    found = least_way(table, marked)
    if found is None:
        return None
    return found[1]


def is_pictures(thing):
    """Whether it is a list of one or more pictures of one size."""
    if not isinstance(thing, list) or not thing or not all([is_picture(part) for part in thing]):
        return False
    return all([size_of(part) == size_of(thing[0]) for part in thing])


def sums_of(one, other):
    """A table of fares, each the sum of those of two tables."""
    return [[tuple([a + b for a, b in zip(left, right)]) for left, right in zip(row, beside)]
            for row, beside in zip(one, other)]


def common_seam(pictures, *, manner="worth"):
    """The seam that costs least in all these pictures together, of several the first one."""
    if not is_pictures(pictures):
        raise NoPictures("pictures are a list of one or more pictures of one size")
    need_manner(manner)
    table = fares(pictures[0], manner)
    for picture in pictures[1:]:
        table = sums_of(table, fares(picture, manner))
    return least_way(table, all_free(pictures[0]))[1]


def sheet_cell(ways):
    """What the paper says of a cell from which these are the best ways, one or none."""
    if not ways:
        return None
    less, cost, places = ways[0]
    return (-less, cost)


def paper(picture, *, manner="worth", marks=None):
    """For each cell (gone, cost) of the best way from it down, this cell's own cost left out; None without a way."""
    table, marked = laid_out(picture, manner, marks)
    rows = best_ways(table, marked, 1)
    return tuple([tuple([sheet_cell(ways) for ways in row]) for row in rows])


def many_least(picture, *, manner="worth", marks=None):
    """How many seams are as good as the best one, in cells to be gone and in cost."""
    table, marked = laid_out(picture, manner, marks)
    told = as_good(from_top(table, best_counts(table, marked)))
    return sum([many for less, cost, many in told])


def cells_along(picture, seam):
    return tuple([row[place] for row, place in zip(picture, seam)])


def without(rows, seam):
    """The rows without what stands at the seam's places."""
    return tuple([row[:place] + row[place + 1:] for row, place in zip(rows, seam)])


def with_cells(rows, seam, cells):
    """The rows with these cells, so that they stand at the seam's places."""
    return tuple([row[:place] + (cell,) + row[place:] for row, place, cell in zip(rows, seam, cells)])


def cells_of(picture, seam):
    """The seam's cells, row by row."""
    need_seam(seam, picture)
    return cells_along(picture, seam)


def cut(picture, seam):
    """The picture without the seam's cells; None, where it is one wide."""
    need_seam(seam, picture)
    if len(picture[0]) == 1:
        return None
    return without(picture, seam)


def is_cells(thing, high):
    """Whether it is a tuple of a cell for each of so many rows."""
    return isinstance(thing, tuple) and len(thing) == high and all([is_cell(cell) for cell in thing])


def put_back(picture, seam, cells):
    """The picture, wider by one, in which these cells stand at the seam's places; None, where it is 20 wide."""
    wide, high = size_of(picture)
    if not is_way(seam, wide + 1, high):
        raise NoSeam("it is no seam of a picture wider by one")
    if not is_cells(cells, high):
        raise NoCells("cells are a tuple of a cell for each row")
    if wide == MOST_LONG:
        return None
    return with_cells(picture, seam, cells)


def mean_behind(row, place):
    """The mean of this cell and the next one of the row, rounded down; of the last one itself."""
    following = min(place + 1, len(row) - 1)
    return (row[place] + row[following]) // 2


def means_along(picture, seam):
    """The cells that come behind those of the seam, where the picture is doubled at it."""
    return tuple([mean_behind(row, place) for row, place in zip(picture, seam)])


def seam_behind(seam):
    """The places behind those of the seam, at which cells come."""
    return tuple([place + 1 for place in seam])


def doubled(picture, seam):
    """The picture with a cell behind each one of the seam: its mean with the next; None, where it is 20 wide."""
    need_seam(seam, picture)
    if len(picture[0]) == MOST_LONG:
        return None
    return with_cells(picture, seam_behind(seam), means_along(picture, seam))
