"""A plain desk of the tests' own: it goes through all its deeds anew, from the picture with which it began."""

import functools

import brute

MARKS = {"keep": 1, "drop": 2, "free": 0}


class Refused(Exception):
    """What a deed is refused with: the name of the error, and its field now, or None."""

    def __init__(self, name, now=None):
        super().__init__(name, now)
        self.why = (name, now)


def whole(thing):
    return type(thing) is int


def apart(grid):
    """The picture and the marks of a grid, in which each cell stands together with its mark."""
    return (tuple(tuple(cell for cell, mark in row) for row in grid),
            tuple(tuple(mark for cell, mark in row) for row in grid))


def best(grid, manner):
    seam = brute.swift_best(apart(grid)[0], manner, apart(grid)[1])
    if seam is None:
        raise Refused("NoWay")
    return seam


def with_box(grid, deed):
    word, x, y, wide, high = deed
    if not all(whole(part) for part in deed[1:]) or x < 0 or y < 0 or wide < 1 or high < 1:
        raise Refused("NoBox")
    if x + wide > len(grid[0]) or y + high > len(grid):
        raise Refused("NoBox")
    rows = [list(row) for row in grid]
    others = 0
    for at in range(y, y + high):
        for place in range(x, x + wide):
            cell, mark = rows[at][place]
            others += mark != MARKS[word]
            rows[at][place] = (cell, MARKS[word])
    return others, tuple(tuple(row) for row in rows), None


def narrower(grid, manner):
    if len(grid[0]) == 1:
        raise Refused("NoRoom", 1)
    seam = best(grid, manner)
    return brute.without(grid, seam), seam, tuple(row[x][0] for row, x in zip(grid, seam))


def wider(grid, manner):
    if len(grid[0]) == 20:
        raise Refused("NoRoom", 20)
    seam = best(grid, manner)
    rows, came = [], []
    for row, x in zip(grid, seam):
        right = row[x + 1] if x + 1 < len(row) else row[x]
        came.append((row[x][0] + right[0]) // 2)
        rows.append(row[:x + 1] + ((came[-1], 0),) + row[x + 1:])
    return tuple(rows), seam, tuple(came)


def with_seam(grid, word, manner):
    if word == "narrow":
        made, seam, cells = narrower(grid, manner)
    elif word == "flatten":
        made, seam, cells = narrower(brute.turned(grid), manner)
        made = brute.turned(made)
    else:
        made, seam, cells = wider(grid, manner)
    return seam, made, (word, seam, cells)


@functools.lru_cache(maxsize=None)
def behind(picture, manner, deeds):
    """(told, grid, steps) behind these deeds."""
    if not deeds:
        return None, tuple(tuple((cell, 0) for cell in row) for row in picture), ()
    told, grid, steps = behind(picture, manner, deeds[:-1])
    deed = deeds[-1]
    told, grid, step = with_box(grid, deed) if deed[0] in MARKS else with_seam(grid, deed[0], manner)
    return told, grid, steps + ((step,) if step else ())


class PlainDesk:
    def __init__(self, picture, manner="worth"):
        self.first, self.manner, self.deeds, self.undone = picture, manner, (), ()

    def now(self):
        """All that a desk tells of itself."""
        told, grid, steps = behind(self.first, self.manner, self.deeds)
        picture, marks = apart(grid)
        return {"picture": picture, "marks": marks, "size": (len(grid[0]), len(grid)), "steps": list(steps),
                "log": list(self.deeds), "counts": (len(self.deeds), len(self.undone)), "len": len(self.deeds),
                "str": str(len(grid[0])) + "x" + str(len(grid))}

    def do(self, deed):
        told = behind(self.first, self.manner, self.deeds + (deed,))[0]
        self.deeds, self.undone = self.deeds + (deed,), ()
        return told

    def back(self):
        if not self.deeds:
            raise Refused("NoBack")
        self.deeds, self.undone = self.deeds[:-1], self.undone + self.deeds[-1:]
        return self.undone[-1]

    def forth(self):
        if not self.undone:
            raise Refused("NoBack")
        self.deeds, self.undone = self.deeds + self.undone[-1:], self.undone[:-1]
        return self.deeds[-1]


def now(desk):
    """All that a desk of the program tells of itself, as that of a plain one."""
    return {"picture": desk.picture(), "marks": desk.marks(), "size": desk.size(), "steps": desk.steps(),
            "log": desk.log(), "counts": desk.counts(), "len": len(desk), "str": str(desk)}


def do(desk, deed):
    """Do a deed as logs tell it on a desk of the program; also ("back",) and ("forth",)."""
    method = getattr(desk, deed[0])
    if deed[0] in MARKS:
        return method(deed[1], deed[2], wide=deed[3], high=deed[4])
    return method()


def do_plain(desk, deed):
    if deed == ("back",):
        return desk.back()
    return desk.forth() if deed == ("forth",) else desk.do(deed)


def drawn_box(draw, wide, high):
    """A box that lies in the picture, most often; of some four one is over an edge, or is none."""
    if draw.randrange(4) == 0:
        return tuple(draw.randrange(-1, most + 2) for most in (wide, high, wide, high))
    x, y = draw.randrange(wide), draw.randrange(high)
    return x, y, draw.randrange(1, min(wide - x, 4) + 1), draw.randrange(1, min(high - y, 4) + 1)


WORDS = ["keep", "drop", "free"] * 2 + ["narrow", "flatten", "widen"] * 3 + ["back"] * 3 + ["forth"] * 2


def drawn_deed(draw, size):
    """A deed for a picture of this size; draw is a random.Random with a seed of its own."""
    word = draw.choice(WORDS)
    return (word,) + (drawn_box(draw, *size) if word in MARKS else ())
