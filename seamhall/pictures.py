"""Pictures: tuples of rows, tuples of cells; the cell (x, y) stands in row y at place x."""

from seamhall.errors import NoPicture

MOST_LONG = 20
MOST_CELL = 99


def is_whole(thing):
    # Python counts truths as ints; here they are no whole numbers.
    return isinstance(thing, int) and not isinstance(thing, bool)


def is_cell(thing):
    return is_whole(thing) and 0 <= thing <= MOST_CELL


def is_line(thing):
    """Whether it is a tuple as long as a picture may be wide, or high."""
    return isinstance(thing, tuple) and 1 <= len(thing) <= MOST_LONG


def is_row(thing):
    return is_line(thing) and all([is_cell(cell) for cell in thing])


def is_picture(thing):
    """Whether it is a picture; any thing may be asked."""
    if not is_line(thing) or not all([is_row(row) for row in thing]):
        return False
    return all([len(row) == len(thing[0]) for row in thing])


def need_picture(thing):
    """Refuse what is no picture."""
    if not is_picture(thing):
        raise NoPicture("a picture is a tuple of 1 to 20 rows, tuples of 1 to 20 cells from 0 to 99, all as long")


def size_of(picture):
    """How wide and how high the picture is."""
    need_picture(picture)
    return (len(picture[0]), len(picture))


def turned(picture):
    """The picture with its columns as rows, the first column as the first row."""
    wide, high = size_of(picture)
    return tuple([tuple([picture[y][x] for y in range(high)]) for x in range(wide)])


def mirrored(picture):
    """The picture with each row from behind."""
    need_picture(picture)
    return tuple([row[::-1] for row in picture])


def counted(picture):
    """A rising list of tuples (cell, how often it stands in the picture)."""
    need_picture(picture)
    often = {}
    for row in picture:
        for cell in row:
            often[cell] = often.get(cell, 0) + 1
    return sorted(often.items())


def brightness(picture):
    """The sum of all cells."""
    need_picture(picture)
    return sum([sum(row) for row in picture])
