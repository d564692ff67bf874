"""Pictures, and things that are none, for all tests."""


def patterned(wide, high, turn=0):
    """A picture of this size; turn makes others of the same size."""
    return tuple(tuple((7 * x * x + 13 * y + 5 * x * y * y + 31 * turn * (x + 2 * y)) % 100
                       for x in range(wide)) for y in range(high))


def deep(inner, times, made):
    """inner within so many lists or tuples."""
    for _ in range(times):
        inner = made([inner])
    return inner


SMALL = ((1, 2, 3), (40, 50, 60))

SIZES = [(1, 1), (1, 2), (2, 1), (1, 20), (20, 1), (20, 20), (2, 2), (3, 2), (2, 3), (3, 3), (7, 5), (19, 20)]

PICTURES = [((0,),), ((99,),), ((0, 99), (99, 0)), ((5, 5, 5),), ((5,), (5,), (5,)), SMALL]
PICTURES += [patterned(wide, high, turn) for wide, high in SIZES for turn in range(3)]

ROW = (1, 2, 3)

NO_PICTURES = {
    "no rows": (),
    "a row of no cells": ((),),
    "rows of no cells": ((), ()),
    "20 rows of no cells": ((),) * 20,
    "a row of no cells behind others": (ROW, ()),
    "a row of no cells ahead of others": ((), ROW),
    "the second row shorter": (ROW, (1, 2)),
    "the second row longer": (ROW, (1, 2, 3, 4)),
    "the last row shorter": (ROW, ROW, ROW, (1, 2)),
    "a middle row longer": (ROW, (1, 2, 3, 4), ROW),
    "the first row longer": ((1, 2, 3, 4), ROW, ROW),
    "21 wide": ((0,) * 21,),
    "21 wide, 20 high": ((0,) * 21,) * 20,
    "21 high": ((0,),) * 21,
    "21 high, 20 wide": ((0,) * 20,) * 21,
    "21 wide and high": ((0,) * 21,) * 21,
    "1000 wide": ((0,) * 1000,),
    "1000 high": ((0,),) * 1000,
    "a cell -1": ((-1,),),
    "a cell -1 at the end": (ROW, (1, 2, -1)),
    "a cell 100": ((100,),),
    "a cell 100 at the end": (ROW, (1, 2, 100)),
    "a cell far below": ((-(10 ** 30),),),
    "a cell far above": ((10 ** 30,),),
    "True as a cell": ((True,),),
    "False as a cell": ((False,),),
    "True among cells": (ROW, (1, True, 3)),
    "False among cells": (ROW, (1, 2, False)),
    "None as a cell": ((None,),),
    "None among cells": (ROW, (1, None, 3)),
    "a text as a cell": (("1",),),
    "a text among cells": (ROW, (1, 2, "3")),
    "a tuple as a cell": (((1,),),),
    "a list as a cell": (([1],),),
    "an empty tuple as a cell": (((),),),
    "a tuple among cells": (ROW, (1, 2, (3,))),
    "lists alone": [[1, 2, 3], [40, 50, 60]],
    "a list of rows": [(1, 2, 3), (40, 50, 60)],
    "a tuple of lists": ([1, 2, 3], [40, 50, 60]),
    "a list among rows": (ROW, [1, 2, 3]),
    "an empty list": [],
    "a tuple of an empty list": ([],),
    "one row by itself": (1, 2, 3),
    "a number among rows": (ROW, 3),
    "None among rows": (ROW, None),
    "True among rows": (ROW, True),
    "texts as rows": ("123", "456"),
    "a text among rows": (ROW, "123"),
    "a list of texts": ["1 2 3"],
    "None": None,
    "True": True,
    "False": False,
    "0": 0,
    "1": 1,
    "-1": -1,
    "a great number": 10 ** 30,
    "an empty text": "",
    "a text": "1 2 3\n4 5 6\n",
    "a text of one sign": "1",
    "tuples three deep": deep(1, 3, tuple),
    "tuples six deep": deep(1, 6, tuple),
    "tuples seven deep": deep(1, 7, tuple),
    "no cell, tuples six deep": deep((), 5, tuple),
    "lists six deep": deep(1, 6, list),
    "lists and tuples in turns": ([([(1, "a")], None)], [((True,),)]),
    "a picture within a tuple": (SMALL,),
    "a picture within a list": [SMALL],
    "a picture beside None": (SMALL, None),
}
