"""Stage 7: tables for all widths; [0.2] (d)."""

import itertools
import unittest

import brute
from samples import LARGE, MANNERS, PICTURES, SMALL, THINGS, TINY, patterned, shaded
from seamhall.errors import NoTable, NoWidth
from seamhall.ladders import at_width, is_orders, orders, seams_of, widened
from seamhall.pictures import is_picture
from seamhall.seams import cut, doubled, is_seam
from seamhall.shrinking import history, narrowed


def is_table(table):
    """Whether rows that each hold the numbers once are a table, the long way: taking seam by seam."""
    left = table
    for number in range(len(table[0])):
        seam = tuple(row.index(number) for row in left)
        if any(abs(one - other) > 1 for one, other in zip(seam, seam[1:])):
            return False
        left = brute.without(left, seam)
    return True


def all_tables(wide, high):
    """All tables of orders for pictures of this size."""
    rows = list(itertools.permutations(range(wide)))
    return [table for table in itertools.product(rows, repeat=high) if is_table(table)]


class IsOrdersTest(unittest.TestCase):
    def test_all_rows_that_hold_the_numbers_once(self):
        for wide, high in ((1, 1), (1, 3), (2, 1), (2, 2), (3, 1), (3, 2), (3, 3), (4, 2)):
            picture = patterned(wide, high)
            rows = list(itertools.permutations(range(wide)))
            for table in itertools.product(rows, repeat=high):
                self.assertIs(is_orders(table, picture), is_table(table), table)

    def test_some_are_and_some_are_not(self):
        self.assertEqual(len(all_tables(3, 1)), 6)
        self.assertEqual(is_orders(((0, 1, 2), (1, 0, 2)), SMALL), True)
        self.assertEqual(is_orders(((0, 1, 2), (1, 2, 0)), SMALL), False)

    def test_a_later_seam_may_be_none(self):
        picture = patterned(4, 2)
        self.assertIs(is_orders(((0, 1, 2, 3), (0, 2, 3, 1)), picture), False)
        self.assertIs(is_orders(((0, 1, 2, 3), (0, 2, 1, 3)), picture), True)

    def test_numbers_that_do_not_stand_once_each(self):
        for row in ((0, 0, 1), (0, 1, 1), (1, 2, 3), (0, 1, 3), (0, 1), (0, 1, 2, 3), (-1, 0, 1), (0, 2, 2), (),
                    (0, 1, 10 ** 30)):
            for table in ((row, row), (row, (0, 1, 2)), ((0, 1, 2), row)):
                self.assertIs(is_orders(table, SMALL), False, table)

    def test_truths_are_no_numbers(self):
        for row in ((False, 1, 2), (0, True, 2), (False, True, 2)):
            for table in ((row, row), (row, (0, 1, 2)), ((0, 1, 2), row)):
                self.assertIs(is_orders(table, SMALL), False, table)
        self.assertIs(is_orders(((False,),), ((7,),)), False)
        self.assertIs(is_orders(((0,),), ((7,),)), True)

    def test_as_many_rows_as_the_picture(self):
        row = (0, 1, 2)
        for many in (0, 1, 3, 20):
            self.assertIs(is_orders((row,) * many, SMALL), False)
        self.assertIs(is_orders((row,) * 2, SMALL), True)

    def test_other_things(self):
        row = (0, 1, 2)
        wrong = [[row, row], (list(row), list(row)), (row, list(row)), (row, None), (row, "012"), ("012", "012"),
                 (("0", "1", "2"), row), ((None, 1, 2), row), (((0,), 1, 2), row), (([0], 1, 2), row), (row, 0)]
        for thing in THINGS + wrong:
            self.assertIs(is_orders(thing, SMALL), False, thing)


class OrdersTest(unittest.TestCase):
    def test_by_the_least_seams(self):
        for picture in TINY:
            for manner in MANNERS:
                told = orders(picture, manner=manner)
                self.assertEqual(told, brute.orders(picture, manner), (picture, manner))
                self.assertIs(is_orders(told, picture), True)

    def test_left_out_it_is_worth(self):
        for picture in TINY:
            self.assertEqual(orders(picture), orders(picture, manner="worth"))

    def test_tuples_of_whole_numbers(self):
        told = orders(SMALL)
        self.assertIs(type(told), tuple)
        self.assertEqual({type(row) for row in told}, {tuple})
        self.assertEqual({type(number) for row in told for number in row}, {int})

    def test_all_sizes(self):
        for picture in PICTURES + LARGE:
            for manner in MANNERS:
                self.assertIs(is_orders(orders(picture, manner=manner), picture), True)

    def test_one_wide_and_one_shade(self):
        self.assertEqual(orders(((3,),) * 20), ((0,),) * 20)
        self.assertEqual(orders(LARGE[0]), (tuple(range(20)),) * 20)


class SeamsOfTest(unittest.TestCase):
    def test_one_behind_the_other(self):
        for wide, high in ((1, 1), (1, 3), (3, 1), (3, 3), (4, 2)):
            picture = patterned(wide, high)
            for table in all_tables(wide, high):
                left, numbers = picture, table
                told = seams_of(picture, table)
                self.assertEqual(len(told), wide)
                for number, seam in enumerate(told):
                    self.assertIs(is_seam(seam, left), True)
                    self.assertEqual({row[x] for row, x in zip(numbers, seam)}, {number})
                    left, numbers = cut(left, seam), brute.without(numbers, seam)

    def test_a_small_one(self):
        self.assertEqual(seams_of(SMALL, ((1, 0, 2), (0, 2, 1))), [(1, 0), (0, 1), (0, 0)])
        self.assertIs(type(seams_of(SMALL, ((1, 0, 2), (0, 2, 1)))), list)

    def test_those_of_the_history(self):
        for picture in TINY + LARGE:
            for manner in MANNERS:
                told = seams_of(picture, orders(picture, manner=manner))
                taken = [seam for seam, cells in history(picture, 1, manner=manner)]
                self.assertEqual(told, taken + [(0,) * len(picture)])


class AtWidthTest(unittest.TestCase):
    def test_at_each_width_it_is_what_narrowing_comes_to(self):
        for picture in TINY + LARGE:
            for manner in MANNERS:
                table = orders(picture, manner=manner)
                for wide in range(1, len(picture[0]) + 1):
                    self.assertEqual(at_width(picture, table, wide), narrowed(picture, wide, manner=manner))

    def test_all_tables(self):
        for wide, high in ((1, 1), (3, 1), (3, 3), (4, 2)):
            picture = patterned(wide, high, 1)
            for table in all_tables(wide, high):
                left = picture
                for number, seam in enumerate(seams_of(picture, table)):
                    self.assertEqual(at_width(picture, table, wide - number), left)
                    left = cut(left, seam)

    def test_widths_beyond(self):
        for picture in TINY:
            table = orders(picture)
            for wide in (0, -1, len(picture[0]) + 1, 21, 10 ** 30, True, None, "1", (1,), [1]):
                with self.assertRaises(NoWidth):
                    at_width(picture, table, wide)


class WidenedTest(unittest.TestCase):
    def test_means_behind_the_cells_of_the_first_seams(self):
        table = ((1, 0, 2), (0, 2, 1))
        picture = ((1, 4, 9), (40, 51, 60))
        self.assertEqual(widened(picture, table, 3), picture)
        self.assertEqual(widened(picture, table, 4), ((1, 4, 6, 9), (40, 45, 51, 60)))
        self.assertEqual(widened(picture, table, 5), ((1, 2, 4, 6, 9), (40, 45, 51, 60, 60)))
        self.assertEqual(widened(picture, table, 6), ((1, 2, 4, 6, 9, 9), (40, 45, 51, 55, 60, 60)))

    def test_cell_by_cell(self):
        for wide, high in ((1, 1), (1, 3), (3, 1), (3, 3), (4, 2)):
            picture = shaded(wide, high, 100, 2)
            for table in all_tables(wide, high):
                for more in range(wide + 1):
                    self.check(picture, table, more)

    def test_all_sizes(self):
        for picture in PICTURES + LARGE:
            wide = len(picture[0])
            for manner in MANNERS:
                table = orders(picture, manner=manner)
                for more in range(min(wide, 20 - wide) + 1):
                    self.check(picture, table, more)

    def check(self, picture, table, more):
        told = widened(picture, table, len(picture[0]) + more)
        self.assertIs(is_picture(told), True)
        for row, numbers, wider in zip(picture, table, told):
            expected = []
            for x, cell in enumerate(row):
                expected.append(cell)
                if numbers[x] in range(more):
                    expected.append((cell + (row + (cell,))[x + 1]) // 2)
            self.assertEqual(wider, tuple(expected))

    def test_wider_by_one_it_is_doubled(self):
        for picture in TINY:
            table = orders(picture)
            self.assertEqual(widened(picture, table, len(picture[0]) + 1),
                             doubled(picture, seams_of(picture, table)[0]))

    def test_from_as_wide_as_it_is_to_twice_that_and_no_more_than_20(self):
        for wide in range(1, 21):
            picture = patterned(wide, 2)
            table = orders(picture)
            most = min(2 * wide, 20)
            self.assertEqual(widened(picture, table, wide), picture)
            self.assertEqual(len(widened(picture, table, most)[0]), most)
            for other in (wide - 1, most + 1, 0, -1, 41, 10 ** 30, True, None, str(wide), (wide,), [wide]):
                with self.assertRaises(NoWidth):
                    widened(picture, table, other)


class RefusedTest(unittest.TestCase):
    def test_tables_of_other_pictures(self):
        table = orders(SMALL)
        for picture in (patterned(3, 3), patterned(2, 2), patterned(4, 2), patterned(3, 1)):
            for asked in (lambda: seams_of(picture, table), lambda: at_width(picture, table, 1),
                          lambda: widened(picture, table, len(picture[0]))):
                with self.assertRaises(NoTable):
                    asked()

    def test_a_table_that_breaks_a_seam(self):
        table = ((0, 1, 2), (1, 2, 0))
        for asked in (lambda: seams_of(SMALL, table), lambda: at_width(SMALL, table, 1),
                      lambda: widened(SMALL, table, 3)):
            with self.assertRaises(NoTable):
                asked()


if __name__ == "__main__":
    unittest.main()
