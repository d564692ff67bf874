"""Pictures, and things that are none, for all tests."""


def patterned(wide, high, turn=0):
    """A picture of this size; turn makes others of the same size."""
    return tuple(tuple((7 * x * x + 13 * y + 5 * x * y * y + 31 * turn * (x + 2 * y)) % 100
                       for x in range(wide)) for y in range(high))


def deep(inner, times, made):
    """inner within so many lists or tuples."""
    for _ in range(times):
        inner = made([inner])
    return inner


SMALL = ((1, 2, 3), (40, 50, 60))

SIZES = [(1, 1), (1, 2), (2, 1), (1, 20), (20, 1), (20, 20), (2, 2), (3, 2), (2, 3), (3, 3), (7, 5), (19, 20)]

PICTURES = [((0,),), ((99,),), ((0, 99), (99, 0)), ((5, 5, 5),), ((5,), (5,), (5,)), SMALL]
PICTURES += [patterned(wide, high, turn) for wide, high in SIZES for turn in range(3)]

ROW = (1, 2, 3)

NO_PICTURES = {
    "no rows": (),
    "a row of no cells": ((),),
    "rows of no cells": ((), ()),
    "20 rows of no cells": ((),) * 20,
    "a row of no cells behind others": (ROW, ()),
    "a row of no cells ahead of others": ((), ROW),
    "the second row shorter": (ROW, (1, 2)),
    "the second row longer": (ROW, (1, 2, 3, 4)),
    "the last row shorter": (ROW, ROW, ROW, (1, 2)),
    "a middle row longer": (ROW, (1, 2, 3, 4), ROW),
    "the first row longer": ((1, 2, 3, 4), ROW, ROW),
    "21 wide": ((0,) * 21,),
    "21 wide, 20 high": ((0,) * 21,) * 20,
    "21 high": ((0,),) * 21,
    "21 high, 20 wide": ((0,) * 20,) * 21,
    "21 wide and high": ((0,) * 21,) * 21,
    "1000 wide": ((0,) * 1000,),
    "1000 high": ((0,),) * 1000,
    "a cell -1": ((-1,),),
    "a cell -1 at the end": (ROW, (1, 2, -1)),
    "a cell 100": ((100,),),
    "a cell 100 at the end": (ROW, (1, 2, 100)),
    "a cell far below": ((-(10 ** 30),),),
    "a cell far above": ((10 ** 30,),),
    "True as a cell": ((True,),),
    "False as a cell": ((False,),),
    "True among cells": (ROW, (1, True, 3)),
    "False among cells": (ROW, (1, 2, False)),
    "None as a cell": ((None,),),
    "None among cells": (ROW, (1, None, 3)),
    "a text as a cell": (("1",),),
    "a text among cells": (ROW, (1, 2, "3")),
    "a tuple as a cell": (((1,),),),
    "a list as a cell": (([1],),),
    "an empty tuple as a cell": (((),),),
    "a tuple among cells": (ROW, (1, 2, (3,))),
    "lists alone": [[1, 2, 3], [40, 50, 60]],
    "a list of rows": [(1, 2, 3), (40, 50, 60)],
    "a tuple of lists": ([1, 2, 3], [40, 50, 60]),
    "a list among rows": (ROW, [1, 2, 3]),
    "an empty list": [],
    "a tuple of an empty list": ([],),
    "one row by itself": (1, 2, 3),
    "a number among rows": (ROW, 3),
    "None among rows": (ROW, None),
    "True among rows": (ROW, True),
    "texts as rows": ("123", "456"),
    "a text among rows": (ROW, "123"),
    "a list of texts": ["1 2 3"],
    "None": None,
    "True": True,
    "False": False,
    "0": 0,
    "1": 1,
    "-1": -1,
    "a great number": 10 ** 30,
    "an empty text": "",
    "a text": "1 2 3\n4 5 6\n",
    "a text of one sign": "1",
    "tuples three deep": deep(1, 3, tuple),
    "tuples six deep": deep(1, 6, tuple),
    "tuples seven deep": deep(1, 7, tuple),
    "no cell, tuples six deep": deep((), 5, tuple),
    "lists six deep": deep(1, 6, list),
    "lists and tuples in turns": ([([(1, "a")], None)], [((True,),)]),
    "a picture within a tuple": (SMALL,),
    "a picture within a list": [SMALL],
    "a picture beside None": (SMALL, None),
}


def shaded(wide, high, shades, seed):
    """A picture, or marks, of this size with numbers below shades, without a plain pattern; seed makes others."""
    state = 7919 * seed + 104729 * wide + 1299709 * high + shades
    rows = []
    for y in range(high):
        row = []
        for x in range(wide):
            state = (state * 1103515245 + 12345) % 2147483648
            row.append(state // 65536 % shades)
        rows.append(tuple(row))
    return tuple(rows)


def marks_for(wide, high, seed):
    """Marks of this size: of each seven cells some four free, one kept, two to be gone."""
    return tuple(tuple((0, 0, 0, 0, 1, 2, 2)[mark] for mark in row) for row in shaded(wide, high, 7, seed))


def all_marks(wide, high):
    """Many marks for a picture of this size: all kinds, and those that leave few ways, or none."""
    free = (0,) * wide
    told = [((mark,) * wide,) * high for mark in (0, 1, 2)]
    for at in range(high):
        for mark in (1, 2):
            told.append((free,) * at + ((mark,) * wide,) + (free,) * (high - at - 1))
    for at in range(wide):
        for mark in (1, 2):
            told.append(((0,) * at + (mark,) + (0,) * (wide - at - 1),) * high)
        told.append(((1,) * at + (0,) + (1,) * (wide - at - 1),) * high)
    # One open cell in each row, drifting: the only seam there is, and, where it jumps, none at all.
    for step in (1, 2):
        told.append(tuple(tuple(0 if x == step * y % wide else 1 for x in range(wide)) for y in range(high)))
    told += [marks_for(wide, high, seed) for seed in range(3)]
    told += [tuple(tuple(mark % 2 for mark in row) for row in marks_for(wide, high, 5))]
    told += [tuple(tuple(mark // 2 * 2 for mark in row) for row in marks_for(wide, high, 6))]
    return told


# Small enough to go through all seams one by one; few shades, so that many seams cost the same.
TINY_SIZES = [(1, 1), (1, 4), (4, 1), (2, 2), (2, 5), (5, 2), (3, 3), (4, 4), (3, 5), (5, 4)]
TINY = [shaded(wide, high, shades, 1) for wide, high in TINY_SIZES for shades in (1, 2, 3, 100)]

MANNERS = ("worth", "joins")

# A picture of the largest size of each kind: of one shade, in squares, rising, and without a plain pattern.
LARGE = [
    ((42,) * 20,) * 20,
    tuple(tuple(99 * ((x + y) % 2) for x in range(20)) for y in range(20)),
    tuple(tuple(2 * x + 3 * y for x in range(20)) for y in range(20)),
    shaded(20, 20, 100, 3),
    shaded(20, 20, 2, 4),
]

# Things of all kinds; where some of them are right, the test leaves these out.
THINGS = [
    None, True, False, 0, 1, 2, 3, 4, 5, 19, 20, 21, -1, 60, 61, 10 ** 30, -(10 ** 30),
    "", "0", "1", "a", "c", "r", "cr", "worth", "joins", "Worth", "worth ", "1 2 3\n",
    (), (None,), (True,), (0,), (1,), ("worth",), ("c",), ((),), ((0,),), ((None,),), (((0,),),), ([],), ([0],),
    [], [None], [True], [0], [1], ["worth"], ["c"], [()], [(0,)], [[]], [[0]], [((0,), (0,))], [([0], [0])],
    SMALL, [SMALL], (SMALL,), (SMALL, None), [list(row) for row in SMALL],
    deep(1, 6, tuple), deep(1, 6, list), deep(None, 6, tuple), deep("", 6, list), deep((), 5, tuple),
    ([([(1, "a")], None)], [((True,),)]),
]
