"""[2.1] and [2.2] what seams cost, stage 3 the least seam, [5.1] cut and put back; [0.2] (a), (b), (c) of these."""

import itertools
import unittest

import brute
from samples import LARGE, MANNERS, PICTURES, SMALL, THINGS, TINY, all_marks, deep, patterned, shaded
from seamhall.pictures import is_picture, mirrored, turned
from seamhall.seams import (cells_of, common_seam, cost_of, cut, doubled, is_seam, least_seam, many_least, paper,
                            put_back)
from seamhall.worths import worths

WALL = ((0, 0, 0), (1, 1, 1), (0, 0, 0))
THREE = ((1, 5, 2), (8, 8, 0), (3, 9, 4))


def cases():
    """Tiny pictures with marks and manners."""
    for picture in TINY:
        for marks in [None] + all_marks(len(picture[0]), len(picture)):
            for manner in MANNERS:
                yield picture, manner, marks


class IsSeamTest(unittest.TestCase):
    def test_all_tuples_of_places(self):
        for wide, high in ((1, 1), (1, 3), (3, 1), (2, 3), (3, 3), (4, 3)):
            picture = patterned(wide, high)
            right = brute.seams(wide, high)
            for long in range(high + 2):
                for places in itertools.product(range(-2, wide + 2), repeat=long):
                    self.assertIs(is_seam(places, picture), places in right, (places, wide, high))

    def test_one_step_too_far_at_each_row(self):
        picture = patterned(20, 20)
        for at in range(1, 20):
            for step in (2, -2, 3, 19):
                seam = (0,) * at + (step,) * (20 - at)
                self.assertIs(is_seam(seam, picture), False, (at, step))
        self.assertIs(is_seam(tuple(range(20)), picture), True)
        self.assertIs(is_seam(tuple(range(19, -1, -1)), picture), True)
        self.assertIs(is_seam(tuple(range(1, 21)), picture), False)

    def test_truths_are_no_places(self):
        self.assertIs(is_seam((0, 1), SMALL), True)
        for seam in ((False, 1), (0, True), (False, True), (True, 0), (0, False)):
            self.assertIs(is_seam(seam, SMALL), False, seam)

    def test_other_things(self):
        for thing in THINGS + [[0, 0], ([0], [0]), ("0", "0"), (0, None), (0, "1"), ((0,), (0,)), ((0, 0),), [(0, 0)]]:
            self.assertIs(is_seam(thing, SMALL), False, thing)
        for thing in (0, [0], None, (), (0, 0), ((0,),), (None,), ("0",), (False,), deep(0, 6, tuple)):
            self.assertIs(is_seam(thing, ((7,),)), False, thing)
        self.assertIs(is_seam((0,), ((7,),)), True)


class CostTest(unittest.TestCase):
    def test_by_worth(self):
        self.assertEqual(worths(SMALL), ((40, 50, 58), (49, 68, 67)))
        self.assertEqual(cost_of(SMALL, (0, 1), manner="worth"), 40 + 68)
        self.assertEqual(cost_of(SMALL, (2, 2), manner="worth"), 58 + 67)

    def test_by_joins(self):
        picture = ((10, 20, 30), (1, 5, 50))
        self.assertEqual(cost_of(picture, (1, 1), manner="joins"), 20 + 49)
        self.assertEqual(cost_of(picture, (0, 1), manner="joins"), 10 + 49 + abs(20 - 1))
        self.assertEqual(cost_of(picture, (2, 1), manner="joins"), 10 + 49 + abs(20 - 50))
        self.assertEqual(cost_of(picture, (1, 0), manner="joins"), 20 + 4 + abs(10 - 5))
        self.assertEqual(cost_of(picture, (1, 2), manner="joins"), 20 + 45 + abs(30 - 5))

    def test_above_and_beneath_do_not_count_by_joins(self):
        picture = ((0, 0, 0), (99, 99, 99), (0, 0, 0))
        self.assertEqual(cost_of(picture, (1, 1, 1), manner="joins"), 0)
        self.assertEqual(cost_of(picture, (0, 1, 1), manner="joins"), 99)
        self.assertEqual(cost_of(picture, (1, 1, 1), manner="worth"), 198)

    def test_left_out_it_is_worth(self):
        for picture in TINY:
            for seam in brute.seams(len(picture[0]), len(picture)):
                self.assertEqual(cost_of(picture, seam), cost_of(picture, seam, manner="worth"))
        self.assertNotEqual(cost_of(SMALL, (0, 0)), cost_of(SMALL, (0, 0), manner="joins"))

    def test_one_cell_one_row_one_column(self):
        self.assertEqual([cost_of(((7,),), (0,), manner=manner) for manner in MANNERS], [0, 0])
        self.assertEqual([cost_of(((1, 4, 9),), (1,), manner=manner) for manner in MANNERS], [8, 8])
        self.assertEqual([cost_of(((1,), (4,), (9,)), (0, 0, 0), manner=manner) for manner in MANNERS], [16, 0])

    def test_all_seams(self):
        for picture in TINY:
            for manner in MANNERS:
                for seam in brute.seams(len(picture[0]), len(picture)):
                    self.assertEqual(cost_of(picture, seam, manner=manner), brute.cost(picture, seam, manner))

    def test_large_ones(self):
        for picture in LARGE:
            for manner in MANNERS:
                for seam in (tuple(range(20)), (0,) * 20, (19,) * 20, (3, 4) * 10, tuple(range(19, -1, -1))):
                    told = cost_of(picture, seam, manner=manner)
                    self.assertEqual(told, brute.cost(picture, seam, manner))
                    self.assertIs(type(told), int)

    def test_mirrored_it_costs_the_same(self):
        for picture in TINY:
            wide = len(picture[0])
            for manner in MANNERS:
                for seam in brute.seams(wide, len(picture)):
                    back = tuple(wide - 1 - x for x in seam)
                    self.assertEqual(cost_of(picture, seam, manner=manner),
                                     cost_of(mirrored(picture), back, manner=manner))


class LeastSeamTest(unittest.TestCase):
    def test_the_best_of_all(self):
        for picture, manner, marks in cases():
            self.assertEqual(least_seam(picture, manner=manner, marks=marks), brute.best(picture, manner, marks),
                             (picture, manner, marks))

    def test_left_out(self):
        for picture in TINY:
            self.assertEqual(least_seam(picture), brute.best(picture, "worth"))
            self.assertEqual(least_seam(picture, manner="joins"), brute.best(picture, "joins"))
            self.assertEqual(least_seam(picture, marks=None), brute.best(picture, "worth"))

    def test_a_tuple_of_whole_numbers(self):
        told = least_seam(SMALL)
        self.assertIs(type(told), tuple)
        self.assertEqual([type(place) for place in told], [int, int])

    def test_of_several_the_first(self):
        self.assertEqual(least_seam(((5,) * 4,) * 3), (0, 0, 0))
        self.assertEqual(least_seam(((5,) * 20,) * 20, manner="joins"), (0,) * 20)

    def test_cells_to_be_gone_come_ahead_of_cost(self):
        picture = ((0, 0, 0, 99), (0, 0, 99, 0), (0, 0, 0, 99))
        marks = ((0, 0, 0, 0), (0, 0, 0, 2), (0, 0, 0, 0))
        for manner in MANNERS:
            self.assertEqual(least_seam(picture, manner=manner)[1], 0)
            self.assertEqual(least_seam(picture, manner=manner, marks=marks)[1], 3)

    def test_two_cells_to_be_gone_come_ahead_of_one(self):
        marks = ((2, 0, 0, 0), (0, 0, 0, 2), (0, 0, 0, 2))
        self.assertEqual(least_seam(((1,) * 4,) * 3, marks=marks), (2, 3, 3))

    def test_kept_cells_are_not_taken_though_they_cost_nothing(self):
        picture = ((0, 0, 0, 50, 0),) * 3
        marks = ((1, 0, 0, 0, 0), (0, 1, 0, 0, 0), (1, 0, 0, 0, 0))
        self.assertEqual(least_seam(picture, manner="joins"), (0, 0, 0))
        self.assertEqual(least_seam(picture, manner="joins", marks=marks), brute.best(picture, "joins", marks))
        self.assertNotIn(least_seam(picture, marks=marks)[0], (0,))

    def test_none_where_a_row_is_kept_whole(self):
        for picture in LARGE:
            for at in (0, 7, 19):
                marks = tuple((1 if y == at else 2,) * 20 for y in range(20))
                for manner in MANNERS:
                    self.assertIsNone(least_seam(picture, manner=manner, marks=marks))
                    self.assertEqual(many_least(picture, manner=manner, marks=marks), 0)

    def test_none_where_kept_cells_leave_gaps_too_far_apart(self):
        marks = ((0, 1, 1), (1, 1, 0))
        self.assertIsNone(least_seam(SMALL, marks=marks))
        self.assertEqual(least_seam(SMALL, marks=((0, 1, 1), (1, 0, 1))), (0, 1))

    def test_a_wall_of_kept_cells_with_one_gap(self):
        for gap in range(20):
            wall = tuple(0 if x == gap else 1 for x in range(20))
            marks = ((0,) * 20,) * 9 + (wall,) + ((0,) * 20,) * 10
            for picture in LARGE:
                self.assertEqual(least_seam(picture, marks=marks)[9], gap)


class PaperTest(unittest.TestCase):
    def test_cell_by_cell(self):
        for picture, manner, marks in cases():
            wide, high = len(picture[0]), len(picture)
            told = paper(picture, manner=manner, marks=marks)
            expected = tuple(tuple(brute.paper_at(picture, x, y, manner, marks) for x in range(wide))
                             for y in range(high))
            self.assertEqual(told, expected, (picture, manner, marks))

    def test_left_out(self):
        for picture in TINY:
            self.assertEqual(paper(picture), paper(picture, manner="worth", marks=None))

    def test_tuples(self):
        for marks in (None, WALL):
            told = paper(((1, 2, 3),) * 3, marks=marks)
            self.assertIs(type(told), tuple)
            for row in told:
                self.assertIs(type(row), tuple)
                self.assertTrue(all(cell is None or type(cell) is tuple for cell in row))

    def test_a_small_one(self):
        self.assertEqual(paper(SMALL), (((0, 49), (0, 49), (0, 67)), ((0, 0), (0, 0), (0, 0))))
        self.assertEqual(paper(SMALL, marks=((0, 1, 2), (1, 1, 2))), ((None, None, (2, 67)), (None, None, (1, 0))))

    def test_above_a_wall_there_is_no_way(self):
        self.assertEqual(paper(((1, 2, 3),) * 3, marks=WALL), ((None,) * 3, (None,) * 3, ((0, 0),) * 3))

    def test_large_ones_show_cell_by_cell_that_none_is_better(self):
        for picture in LARGE:
            for manner in MANNERS:
                for marks in [((0,) * 20,) * 20] + all_marks(20, 20)[-5:]:
                    self.check_large(picture, manner, marks)

    def check_large(self, picture, manner, marks):
        told = paper(picture, manner=manner, marks=marks)
        for y in range(20):
            for x in range(20):
                ways = [(0, 0)] if y == 19 else []
                for to in (x - 1, x, x + 1):
                    if y < 19 and 0 <= to < 20 and told[y + 1][to] is not None:
                        gone, cost = told[y + 1][to]
                        seam = (x,) * (y + 1) + (to,) * (19 - y)
                        ways.append((-gone, cost + brute.cost_at(picture, seam, y + 1, manner)))
                expected = None
                if ways and marks[y][x] != 1:
                    less, cost = min(ways)
                    expected = (-less + (1 if marks[y][x] == 2 else 0), cost)
                self.assertEqual(told[y][x], expected)
        top = [(-cell[0], cell[1] + brute.cost_at(picture, (x,) * 20, 0, manner))
               for x, cell in enumerate(told[0]) if cell is not None]
        seam = least_seam(picture, manner=manner, marks=marks)
        if not top:
            self.assertIsNone(seam)
        else:
            self.assertEqual(brute.rank(picture, seam, manner, marks), min(top))


class ManyLeastTest(unittest.TestCase):
    def test_as_many_as_are_as_good(self):
        for picture, manner, marks in cases():
            ranks = [brute.rank(picture, seam, manner, marks) for seam in brute.open_seams(picture, marks)]
            expected = ranks.count(min(ranks)) if ranks else 0
            self.assertEqual(many_least(picture, manner=manner, marks=marks), expected, (picture, manner, marks))

    def test_left_out(self):
        for picture in TINY:
            self.assertEqual(many_least(picture), many_least(picture, manner="worth", marks=None))

    def test_one_shade_of_the_largest_size(self):
        reached = [1] * 20
        for _ in range(19):
            reached = [sum(reached[max(x - 1, 0):x + 2]) for x in range(20)]
        for manner in MANNERS:
            self.assertEqual(many_least(LARGE[0], manner=manner), sum(reached))
        self.assertEqual(sum(reached), 17698806798)

    def test_one_wide_and_one_high(self):
        self.assertEqual(many_least(((4,),) * 20), 1)
        self.assertEqual(many_least(((4,) * 20,)), 20)
        self.assertEqual(many_least(((0, 4, 4, 4, 4),)), 3)
        self.assertEqual(many_least(((0, 4, 4, 4, 4),), marks=((2, 0, 0, 0, 2),)), 1)


class CommonSeamTest(unittest.TestCase):
    def test_the_least_in_all_together(self):
        for first in TINY:
            wide, high = len(first[0]), len(first)
            for many in (1, 2, 3):
                pictures = [first] + [shaded(wide, high, 3, seed) for seed in range(2, 1 + many)]
                for manner in MANNERS:
                    expected = min((sum(brute.cost(picture, seam, manner) for picture in pictures), seam)
                                   for seam in brute.seams(wide, high))[1]
                    self.assertEqual(common_seam(pictures, manner=manner), expected, (pictures, manner))

    def test_left_out_it_is_worth(self):
        for picture in TINY:
            pictures = [picture, mirrored(picture)]
            self.assertEqual(common_seam(pictures), common_seam(pictures, manner="worth"))

    def test_one_picture_many_times(self):
        for picture in TINY + LARGE:
            for manner in MANNERS:
                for many in (1, 2, 5):
                    self.assertEqual(common_seam([picture] * many, manner=manner), least_seam(picture, manner=manner))

    def test_it_need_not_be_the_least_of_any(self):
        one, other = ((0, 0, 9, 9, 50, 0, 90),), ((90, 0, 50, 9, 9, 0, 0),)
        told = common_seam([one, other], manner="joins")
        self.assertEqual(told, (2,))
        self.assertNotEqual(told, least_seam(one, manner="joins"))
        self.assertNotEqual(told, least_seam(other, manner="joins"))

    def test_all_large_ones_together(self):
        for manner in MANNERS:
            told = common_seam(LARGE, manner=manner)
            self.assertIs(is_seam(told, LARGE[0]), True)
            total = sum(cost_of(picture, told, manner=manner) for picture in LARGE)
            for other in [least_seam(picture, manner=manner) for picture in LARGE]:
                self.assertLessEqual(total, sum(cost_of(picture, other, manner=manner) for picture in LARGE))


class CutTest(unittest.TestCase):
    def test_cells_of(self):
        self.assertEqual(cells_of(THREE, (0, 1, 2)), (1, 8, 4))
        self.assertEqual(cells_of(((7,),), (0,)), (7,))

    def test_cut(self):
        self.assertEqual(cut(THREE, (0, 1, 2)), ((5, 2), (8, 0), (3, 9)))
        self.assertEqual(cut(THREE, (2, 1, 0)), ((1, 5), (8, 0), (9, 4)))
        self.assertEqual(cut(((1, 2),), (1,)), ((1,),))

    def test_one_wide_it_is_none(self):
        for high in (1, 2, 20):
            self.assertIsNone(cut(patterned(1, high), (0,) * high))

    def test_put_back(self):
        self.assertEqual(put_back(((5, 2), (8, 0), (3, 9)), (0, 1, 2), (1, 8, 4)), THREE)
        self.assertEqual(put_back(((5,),), (1,), (6,)), ((5, 6),))
        self.assertEqual(put_back(((5,),), (0,), (6,)), ((6, 5),))

    def test_what_was_cut_and_is_put_back_is_the_picture(self):
        for picture in TINY:
            for seam in brute.seams(len(picture[0]), len(picture)):
                told = cut(picture, seam)
                cells = cells_of(picture, seam)
                self.assertEqual(cells, tuple(row[x] for row, x in zip(picture, seam)))
                if len(picture[0]) == 1:
                    self.assertIsNone(told)
                else:
                    self.assertEqual(told, brute.without(picture, seam))
                    self.assertEqual(put_back(told, seam, cells), picture)

    def test_what_was_put_back_and_is_cut_is_the_picture(self):
        for picture in TINY:
            high = len(picture)
            cells = tuple((0, 99, 17, 3, 42)[:high])
            for seam in brute.seams(len(picture[0]) + 1, high):
                told = put_back(picture, seam, cells)
                self.assertIs(is_picture(told), True)
                self.assertEqual(cells_of(told, seam), cells)
                self.assertEqual(cut(told, seam), picture)

    def test_large_ones(self):
        for picture in LARGE:
            for seam in (least_seam(picture), tuple(range(20)), (19,) * 20, (0,) * 20):
                told = cut(picture, seam)
                self.assertEqual((len(told), {len(row) for row in told}), (20, {19}))
                self.assertEqual(put_back(told, seam, cells_of(picture, seam)), picture)

    def test_put_back_is_none_where_it_is_20_wide(self):
        for high in (1, 2, 20):
            picture = patterned(20, high)
            for place in (0, 7, 19, 20):
                self.assertIsNone(put_back(picture, (place,) * high, (5,) * high))
        self.assertEqual(len(put_back(patterned(19, 3), (19,) * 3, (5,) * 3)[0]), 20)


class DoubledTest(unittest.TestCase):
    def test_the_mean_comes_behind(self):
        self.assertEqual(doubled(THREE, (0, 1, 2)), ((1, 3, 5, 2), (8, 8, 4, 0), (3, 9, 4, 4)))

    def test_it_is_rounded_down(self):
        self.assertEqual(doubled(((0, 1),), (0,)), ((0, 0, 1),))
        self.assertEqual(doubled(((98, 99),), (0,)), ((98, 98, 99),))
        self.assertEqual(doubled(((2, 5),), (0,)), ((2, 3, 5),))

    def test_of_the_last_one_it_is_itself(self):
        self.assertEqual(doubled(((2, 5),), (1,)), ((2, 5, 5),))
        self.assertEqual(doubled(((7,), (99,)), (0, 0)), ((7, 7), (99, 99)))

    def test_cell_by_cell(self):
        for picture in TINY:
            for seam in brute.seams(len(picture[0]), len(picture)):
                told = doubled(picture, seam)
                self.assertIs(is_picture(told), True)
                for row, x, wider in zip(picture, seam, told):
                    behind = row[x] if x == len(row) - 1 else (row[x] + row[x + 1]) // 2
                    self.assertEqual(wider, row[:x + 1] + (behind,) + row[x + 1:])

    def test_none_where_it_is_20_wide(self):
        for high in (1, 2, 20):
            self.assertIsNone(doubled(patterned(20, high), (3,) * high))
            self.assertEqual(len(doubled(patterned(19, high), (3,) * high)[0]), 20)

    def test_a_doubled_one_cut_behind_the_seam_is_the_picture(self):
        for picture in TINY:
            for seam in brute.seams(len(picture[0]), len(picture)):
                self.assertEqual(cut(doubled(picture, seam), tuple(x + 1 for x in seam)), picture)


class TurnedTooTest(unittest.TestCase):
    def test_all_sizes(self):
        for picture in PICTURES:
            for made in (picture, turned(picture)):
                for manner in MANNERS:
                    seam = least_seam(made, manner=manner)
                    self.assertIs(is_seam(seam, made), True)
                    self.assertGreaterEqual(many_least(made, manner=manner), 1)


if __name__ == "__main__":
    unittest.main()
