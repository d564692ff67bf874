"""Several seams at once: the least ones that share no cell, and prices which show that no others cost less.

The seams are a flow from START to END. Each cell has two nodes, so that no more than one seam goes through it:
at the first a way comes in, at the second it goes out. One seam is added at a time, along the cheapest way, which
may also go back against seams that are there already, and so lead them elsewhere.
"""

from seamhall.errors import NoNumber
from seamhall.pictures import is_whole, need_picture
from seamhall.ways import near
from seamhall.worths import worths

MOST_TOGETHER = 6
START = 0
END = 1
# More than any way can cost: all worths of the largest picture together are no more than 400 times 198.
FAR = 1000000


def node_into(x, y, wide):
    """The node at which ways come into the cell; the one at which they go out is the next number."""
    return 2 * (y * wide + x + 1)


def arcs_down(costs, taken):
    """Arcs (node, next node, cost) of ways down; there is none through a cell that is taken."""
    wide = len(costs[0])
    arcs = [(START, node_into(x, 0, wide), 0) for x in range(wide)]
    for y, row in enumerate(costs):
        for x, cost in enumerate(row):
            into = node_into(x, y, wide)
            if not taken[y][x]:
                arcs.append((into, into + 1, cost))
            if y + 1 < len(costs):
                arcs += [(into + 1, node_into(place, y + 1, wide), 0) for place in near(x, wide)]
            else:
                arcs.append((into + 1, END, 0))
    return arcs


def arcs_up(costs, seams):
    """Arcs of ways back against the seams: what a cell costs is spared, where it is given up."""
    arcs = []
    for seam in seams:
        beneath = END
        for y in reversed(range(len(seam))):
            into = node_into(seam[y], y, len(costs[0]))
            arcs += [(beneath, into + 1, 0), (into + 1, into, -costs[y][seam[y]])]
            beneath = into
    return arcs


def searched(arcs, many):
    """For each of so many nodes the least cost from START to it, and the node ahead of it on the way."""
    # A node to which no way leads counts as FAR off: prices are made of the costs to all nodes.
    least = [0] + [FAR] * (many - 1)
    ahead = [START] * many
    changed = True
    while changed:
        changed = False
        for node, following, cost in arcs:
            if least[node] + cost < least[following]:
                least[following] = least[node] + cost
                ahead[following] = node
                changed = True
    return (least, ahead)


def taken_by(seams, wide, high):
    """For each cell whether one of the seams goes through it."""
    rows = [[seam[y] for seam in seams] for y in range(high)]
    return [[x in row for x in range(wide)] for row in rows]


def change_along(taken, ahead):
    """Take each cell through which the way to END goes, and give up each one through which it goes back."""
    wide = len(taken[0])
    node = END
    while node != START:
        before = ahead[node]
        if before // 2 == node // 2:
            cell = node // 2 - 1
            y, x = cell // wide, cell % wide
            taken[y][x] = not taken[y][x]
        node = before


def seams_through(taken, many):
    """The seams through the cells that are taken, so many in each row, from left to right."""
    # Ways that cross may change their ends where they do: then the first cells of all rows are a seam, and so on.
    rows = [[x for x, is_taken in enumerate(row) if is_taken] for row in taken]
    return [tuple([row[at] for row in rows]) for at in range(many)]


def flow(costs, many):
    """The least so many seams that share no cell, and the least costs to all nodes when the last one was added."""
    wide, high = len(costs[0]), len(costs)
    seams = []
    least = []
    while len(seams) < many:
        taken = taken_by(seams, wide, high)
        arcs = arcs_down(costs, taken) + arcs_up(costs, seams)
        least, ahead = searched(arcs, 2 * (wide * high + 1))
        change_along(taken, ahead)
        seams = seams_through(taken, len(seams) + 1)
    return (seams, least)


def need_many(picture, many):
    """Refuse what is no picture, then what is no number of seams."""
    need_picture(picture)
    if not is_whole(many) or not 1 <= many <= MOST_TOGETHER:
        raise NoNumber("many is a whole number from 1 to 6")


def together(picture, many):
    """A list of so many seams that share no cell and cost least, from left to right; None, where they do not fit."""
    need_many(picture, many)
    if many > len(picture[0]):
        return None
    return flow(worths(picture), many)[0]


def price_of(cost, least, into):
    """By how much more the way out of a cell costs than the way in and the cell itself; 0, where it is not more."""
    return max(least[into + 1] - least[into] - cost, 0)


def prices(picture, many):
    """A tuple (prices of all cells, sum) which shows that none are cheaper than those of together; None likewise."""
    need_many(picture, many)
    wide = len(picture[0])
    if many > wide:
        return None
    costs = worths(picture)
    seams, least = flow(costs, many)
    table = [tuple([price_of(cost, least, node_into(x, y, wide)) for x, cost in enumerate(row)])
             for y, row in enumerate(costs)]
    return (tuple(table), least[END])
