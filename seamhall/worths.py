"""Worths: how much each cell of a picture stands out among its neighbours."""

from seamhall.pictures import size_of, turned


def gaps(line):
    """For each place of a row or column, by how much the cells on both sides of it differ."""
    last = len(line) - 1
    # Beyond an end cells are as the last one there, so a place there is drawn back to the end.
    return [abs(line[max(at - 1, 0)] - line[min(at + 1, last)]) for at in range(len(line))]


def worths(picture):
    """The worth of each cell, a tuple of rows."""
    wide, high = size_of(picture)
    across = [gaps(row) for row in picture]
    down = [gaps(column) for column in turned(picture)]
    return tuple([tuple([across[y][x] + down[x][y] for x in range(wide)]) for y in range(high)])
