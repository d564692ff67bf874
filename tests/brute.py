"""What the program is to tell, found the long way: by going through all seams, one by one."""

import functools


def cell_at(picture, x, y):
    """The cell (x, y), also beyond the ends, where it is as the last one there."""
    wide, high = len(picture[0]), len(picture)
    if x < 0:
        x = 0
    if x >= wide:
        x = wide - 1
    if y < 0:
        y = 0
    if y >= high:
        y = high - 1
    return picture[y][x]


def worth_at(picture, x, y):
    beside = abs(cell_at(picture, x - 1, y) - cell_at(picture, x + 1, y))
    above = abs(cell_at(picture, x, y - 1) - cell_at(picture, x, y + 1))
    return beside + above


def step_cost(picture, above, x, y, manner):
    """What the cell (x, y) costs a seam that comes to it from this place in the row above; None, where y is 0."""
    if manner == "worth":
        return worth_at(picture, x, y)
    cost = abs(cell_at(picture, x - 1, y) - cell_at(picture, x + 1, y))
    if above == x - 1:
        cost += abs(cell_at(picture, x, y - 1) - cell_at(picture, x - 1, y))
    if above == x + 1:
        cost += abs(cell_at(picture, x, y - 1) - cell_at(picture, x + 1, y))
    return cost


def cost_at(picture, seam, y, manner):
    """What the seam costs at its cell of row y."""
    return step_cost(picture, seam[y - 1] if y > 0 else None, seam[y], y, manner)


@functools.lru_cache(maxsize=None)
def cost(picture, seam, manner):
    return sum(cost_at(picture, seam, y, manner) for y in range(len(picture)))


@functools.lru_cache(maxsize=None)
def seams(wide, high):
    """All seams of pictures of this size, in Python's order."""
    told = [(x,) for x in range(wide)]
    for _ in range(high - 1):
        told = [seam + (x,) for seam in told for x in range(wide) if abs(x - seam[-1]) <= 1]
    assert told == sorted(told)
    return tuple(told)


def open_seams(picture, marks):
    """All seams through no kept cell, in Python's order."""
    return [seam for seam in seams(len(picture[0]), len(picture))
            if marks is None or all(marks[y][x] != 1 for y, x in enumerate(seam))]


def gone(seam, marks):
    """How many cells to be gone the seam has."""
    return sum(1 for y, x in enumerate(seam) if marks is not None and marks[y][x] == 2)


def rank(picture, seam, manner, marks):
    """Less, where the seam is better; the same, where it is as good."""
    return (-gone(seam, marks), cost(picture, seam, manner))


def best(picture, manner, marks=None):
    """The best seam, or None."""
    told = [(rank(picture, seam, manner, marks), seam) for seam in open_seams(picture, marks)]
    return min(told)[1] if told else None


@functools.lru_cache(maxsize=None)
def swift_best(picture, manner, marks):
    """What best tells, row by row from the last one up, for pictures that have too many seams to go through."""
    tails = {}
    for y in range(len(picture) - 1, -1, -1):
        made = {}
        for x in range(len(picture[0])):
            beneath = [(less, price + step_cost(picture, x, after[0], y + 1, manner), after)
                       for less, price, after in (tails[at] for at in (x - 1, x, x + 1) if at in tails)]
            if y == len(picture) - 1:
                beneath = [(0, 0, ())]
            if marks[y][x] != 1 and beneath:
                less, price, after = min(beneath)
                made[x] = (less - (marks[y][x] == 2), price, (x,) + after)
        tails = made
    told = [(less, price + step_cost(picture, None, seam[0], 0, manner), seam) for less, price, seam in tails.values()]
    return min(told)[2] if told else None


def paper_at(picture, x, y, manner, marks):
    """What the paper is to say of the cell (x, y)."""
    told = []
    for seam in seams(len(picture[0]), len(picture)):
        # Each way down from the cell is the end of some seam; what stands above the cell does not matter.
        if seam[y] != x or (marks is not None and any(marks[at][seam[at]] == 1 for at in range(y, len(picture)))):
            continue
        lost = sum(1 for at in range(y, len(picture)) if marks is not None and marks[at][seam[at]] == 2)
        told.append((-lost, sum(cost_at(picture, seam, at, manner) for at in range(y + 1, len(picture)))))
    if not told:
        return None
    less, price = min(told)
    return (-less, price)


def without(rows, seam):
    return tuple(tuple(cell for at, cell in enumerate(row) if at != x) for row, x in zip(rows, seam))


def turned(picture):
    return tuple(zip(*picture))


def narrowing(picture, wide, manner, marks=None):
    """(picture, steps, cost) of narrowing, or None."""
    steps, total = [], 0
    while len(picture[0]) > wide:
        seam = best(picture, manner, marks)
        if seam is None:
            return None
        total += cost(picture, seam, manner)
        steps.append((seam, tuple(row[x] for row, x in zip(picture, seam))))
        picture = without(picture, seam)
        marks = None if marks is None else without(marks, seam)
    return picture, steps, total


def clearing(picture, marks, manner):
    """The seams of cleared, or None."""
    told = []
    while marks is not None and any(mark == 2 for row in marks for mark in row):
        if len(picture[0]) == 1:
            return None
        seam = best(picture, manner, marks)
        if seam is None:
            return None
        told.append(seam)
        picture, marks = without(picture, seam), without(marks, seam)
    return told


def ordered(picture, text, manner):
    """(cost, picture) of an order."""
    total = 0
    for sign in text:
        if sign == "r":
            picture = turned(picture)
        seam = best(picture, manner)
        total += cost(picture, seam, manner)
        picture = without(picture, seam)
        if sign == "r":
            picture = turned(picture)
    return total, picture


def orders(picture, manner):
    """The table of orders: each cell of the first picture knows where it stood."""
    wide, high = len(picture[0]), len(picture)
    places = tuple(tuple(range(wide)) for _ in range(high))
    table = [[None] * wide for _ in range(high)]
    for number in range(wide):
        seam = best(picture, manner)
        for y, x in enumerate(seam):
            table[y][places[y][x]] = number
        picture, places = without(picture, seam), without(places, seam)
    return tuple(tuple(row) for row in table)
