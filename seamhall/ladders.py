"""Tables of orders: made once, they tell which seams go, or are doubled, at each width."""

from seamhall.errors import NoTable
from seamhall.pictures import MOST_LONG, is_whole, size_of
from seamhall.seams import mean_behind
from seamhall.shrinking import need_width, taken
from seamhall.ways import all_free, is_way, need_manner


def is_order_row(thing, wide):
    """Whether it is a tuple in which the numbers from 0 on stand once each, so many of them."""
    if not isinstance(thing, tuple) or not all([is_whole(number) for number in thing]):
        return False
    return sorted(thing) == list(range(wide))


def place_left(row, number):
    """The place of this number in the row, when all lower ones are gone."""
    return len([other for other in row[:row.index(number)] if other > number])


def seams_in(table):
    """The cells of each number, in what the lower ones left."""
    return [tuple([place_left(row, number) for row in table]) for number in range(len(table[0]))]


def is_orders(thing, picture):
    """Whether it is a table of orders for the picture; any thing may be asked."""
    wide, high = size_of(picture)
    if not isinstance(thing, tuple) or len(thing) != high or not all([is_order_row(row, wide) for row in thing]):
        return False
    return all([is_way(seam, wide - gone, high) for gone, seam in enumerate(seams_in(thing))])


def need_orders(thing, picture):
    """Refuse what is no table of orders for the picture."""
    if not is_orders(thing, picture):
        raise NoTable("it is no table of orders for the picture")


def order_row(places, wide):
    """The row of a table in which the seams go at these places, each in what is left."""
    left = list(range(wide))
    row = [0] * wide
    for number, place in enumerate(places):
        row[left.pop(place)] = number
    return tuple(row)


def orders(picture, *, manner="worth"):
    """The table of orders by the least seams, each of what the ones ahead of it left."""
    wide, high = size_of(picture)
    need_manner(manner)
    left, steps, cost = taken(picture, wide, manner, all_free(picture))
    return tuple([order_row([seam[y] for seam, cells in steps], wide) for y in range(high)])


def seams_of(picture, table):
    """A list of the table's seams, one behind the other, each in what is left."""
    need_orders(table, picture)
    return seams_in(table)


def at_width(picture, table, wide):
    """The picture without the first seams of the table, so wide."""
    need_orders(table, picture)
    need_width(wide, 1, len(picture[0]))
    lacking = len(picture[0]) - wide
    return tuple([tuple([cell for cell, number in zip(row, numbers) if number >= lacking])
                  for row, numbers in zip(picture, table)])


def widened_row(row, numbers, more):
    """The row with a mean behind each cell whose number is below more."""
    told = []
    for place, number in enumerate(numbers):
        told.append(row[place])
        if number < more:
            told.append(mean_behind(row, place))
    return tuple(told)


def widened(picture, table, wide):
    """The picture with means behind the cells of the first seams of the table, so wide."""
    need_orders(table, picture)
    least = len(picture[0])
    need_width(wide, least, min(2 * least, MOST_LONG))
    return tuple([widened_row(row, numbers, wide - least) for row, numbers in zip(picture, table)])
