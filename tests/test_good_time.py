"""Pictures of the largest size: every answer comes in good time, though there are very many seams."""

import time
import unittest

from samples import LARGE, MANNERS, all_marks
from seamhall import flows, ladders, logs, ranks, seams, shrinking, texts
from seamhall.desks import Desk

# Far more than any answer takes, far less than going through all seams would.
MOST_SECONDS = 20

DIAGONAL = tuple(range(20))
MARKED = [None] + all_marks(20, 20)[-5:]


def calls(picture, manner, marks):
    """Every function over this picture."""
    table = ladders.orders(picture, manner=manner)
    taken = shrinking.history(picture, 1, manner=manner)
    yield lambda: seams.is_seam(DIAGONAL, picture)
    yield lambda: seams.cost_of(picture, DIAGONAL, manner=manner)
    yield lambda: seams.least_seam(picture, manner=manner, marks=marks)
    yield lambda: seams.common_seam([picture] * 20, manner=manner)
    yield lambda: seams.paper(picture, manner=manner, marks=marks)
    yield lambda: seams.many_least(picture, manner=manner, marks=marks)
    yield lambda: seams.cut(picture, DIAGONAL)
    yield lambda: ranks.how_many(picture, marks=marks)
    yield lambda: ranks.seam_at(picture, ranks.number_of(picture, DIAGONAL))
    yield lambda: ranks.best_seams(picture, 60, manner=manner, marks=marks)
    yield lambda: ranks.is_least(picture, DIAGONAL, manner=manner, marks=marks)
    yield lambda: shrinking.narrowed(picture, 1, manner=manner, marks=marks)
    yield lambda: shrinking.history(picture, 1, manner=manner, marks=marks)
    yield lambda: shrinking.rebuilt(tuple(row[:1] for row in picture), taken)
    yield lambda: shrinking.loss(picture, 1, manner=manner)
    yield lambda: shrinking.cleared(picture, marks, manner=manner)
    yield lambda: shrinking.by_order(picture, "cr" * 19, manner=manner)
    yield lambda: ladders.is_orders(table, picture)
    yield lambda: ladders.orders(picture, manner=manner)
    yield lambda: ladders.seams_of(picture, table)
    yield lambda: ladders.at_width(picture, table, 1)
    yield lambda: ladders.widened(picture, table, 20)


def worked(picture, manner):
    """A desk on which all kinds of deeds were done, taken back and done again."""
    desk = Desk(picture, manner=manner)
    desk.keep(3, 3, wide=4, high=4)
    desk.drop(9, 0, wide=2, high=20)
    for _ in range(10):
        desk.narrow()
        desk.flatten()
    for _ in range(10):
        desk.widen()
    while desk.counts()[0]:
        desk.back()
    while desk.counts()[1]:
        desk.forth()
    return desk


def later_calls(picture, manner, marks):
    """Every function over several seams, desks, logs and texts."""
    desk = worked(picture, manner)
    for many in range(1, 7):
        yield lambda: flows.together(picture, many)
        yield lambda: flows.prices(picture, many)
    yield lambda: worked(picture, manner)
    yield lambda: logs.replayed(picture, desk.log(), manner=manner)
    yield lambda: logs.replayed(picture, [("narrow",), ("widen",)] * 100, manner=manner)
    yield lambda: logs.origin_of(desk)
    yield lambda: logs.fitted(picture, 1, 1, manner=manner)
    yield lambda: logs.fitted(tuple(row[:1] for row in picture), 20, 1, manner=manner)
    yield lambda: texts.read_picture(texts.picture_text(picture))
    yield lambda: marks is None or texts.read_marks(texts.marks_text(marks))
    yield lambda: texts.read_log(texts.log_text(desk.log() * 100))


class GoodTimeTest(unittest.TestCase):
    def check(self, call, number):
        began = time.monotonic()
        call()
        self.assertLess(time.monotonic() - began, MOST_SECONDS, number)

    def test_every_function(self):
        for at, picture in enumerate(LARGE):
            for manner in MANNERS:
                for number, call in enumerate(calls(picture, manner, MARKED[at])):
                    self.check(call, number)

    def test_every_later_function(self):
        for at, picture in enumerate(LARGE):
            for manner in MANNERS:
                for number, call in enumerate(later_calls(picture, manner, MARKED[at])):
                    self.check(call, number)

    def test_a_desk_with_many_deeds(self):
        def run():
            desk = Desk(LARGE[0])
            for at in range(3000):
                desk.keep(at % 20, at // 20 % 20)
                desk.free(at % 20, at // 20 % 20)
            for _ in range(6000):
                desk.back()
            for _ in range(6000):
                desk.forth()
            self.assertEqual(len(desk.twin()), 6000)
        self.check(run, "many deeds")

    def test_best_order(self):
        for manner in MANNERS:
            self.check(lambda: shrinking.best_order(LARGE[0], 4, 4, manner=manner), manner)
            self.check(lambda: shrinking.best_order(LARGE[1], 4, 4, manner=manner), manner)


if __name__ == "__main__":
    unittest.main()
