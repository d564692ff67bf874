"""[1.1] pictures, and [0.3] as far as it speaks of them."""

import copy
import unittest

from samples import NO_PICTURES, PICTURES, SIZES, SMALL, patterned
from seamhall.errors import NoPicture
from seamhall.pictures import brightness, counted, is_picture, mirrored, size_of, turned

REFUSING = [size_of, turned, mirrored, counted, brightness]


class IsPictureTest(unittest.TestCase):
    def test_pictures(self):
        for picture in PICTURES:
            self.assertIs(is_picture(picture), True, picture)

    def test_each_cell_from_0_to_99(self):
        for cell in range(100):
            self.assertIs(is_picture(((cell,),)), True, cell)
            self.assertIs(is_picture(((0, 99), (1, cell))), True, cell)

    def test_each_size_from_1_to_20(self):
        for wide in range(1, 21):
            for high in range(1, 21):
                self.assertIs(is_picture(((3,) * wide,) * high), True, (wide, high))

    def test_sizes_beyond(self):
        for many in range(1, 21):
            for wide, high in ((0, many), (many, 0), (21, many), (many, 21), (22, many), (many, 22)):
                self.assertIs(is_picture(((3,) * wide,) * high), False, (wide, high))

    def test_other_things(self):
        for why, thing in NO_PICTURES.items():
            with self.subTest(why):
                self.assertIs(is_picture(thing), False)

    def test_a_wrong_cell_is_seen_at_each_place(self):
        for wrong in (-1, 100, True, False, None, "1", (1,), [1]):
            for y in range(2):
                for x in range(3):
                    rows = [list(row) for row in SMALL]
                    rows[y][x] = wrong
                    self.assertIs(is_picture(tuple(tuple(row) for row in rows)), False, (wrong, x, y))

    def test_a_row_of_another_length_is_seen_at_each_place(self):
        for at in range(5):
            for length in (1, 2, 4, 20):
                rows = [(1, 2, 3)] * 5
                rows[at] = (1,) * length
                self.assertIs(is_picture(tuple(rows)), False, (at, length))


class RefusedTest(unittest.TestCase):
    def test_each_refuses_what_is_no_picture(self):
        for asked in REFUSING:
            for why, thing in NO_PICTURES.items():
                with self.subTest(asked.__name__, why=why):
                    with self.assertRaises(NoPicture):
                        asked(thing)

    def test_what_was_refused_is_as_it_was(self):
        for asked in REFUSING + [is_picture]:
            for why, thing in NO_PICTURES.items():
                before = copy.deepcopy(thing)
                try:
                    asked(thing)
                except NoPicture:
                    pass
                self.assertEqual(repr(thing), repr(before), (asked.__name__, why))


class HandedInTest(unittest.TestCase):
    def test_a_picture_is_as_it_was(self):
        for asked in REFUSING + [is_picture]:
            for picture in PICTURES:
                before = copy.deepcopy(picture)
                asked(picture)
                self.assertEqual(repr(picture), repr(before), asked.__name__)

    def test_equal_pictures_are_told_the_same(self):
        for asked in REFUSING:
            for picture in PICTURES:
                other = tuple(tuple(list(row)) for row in list(picture))
                self.assertEqual(asked(picture), asked(other), asked.__name__)


class SizeTest(unittest.TestCase):
    def test_wide_comes_ahead_of_high(self):
        self.assertEqual(size_of(SMALL), (3, 2))
        self.assertEqual(size_of(((1,), (2,), (3,))), (1, 3))

    def test_sizes(self):
        for wide, high in SIZES:
            self.assertEqual(size_of(patterned(wide, high)), (wide, high))


class TurnedTest(unittest.TestCase):
    def test_columns_become_rows(self):
        self.assertEqual(turned(SMALL), ((1, 40), (2, 50), (3, 60)))

    def test_one_row_one_column_one_cell(self):
        self.assertEqual(turned(((1, 2, 3),)), ((1,), (2,), (3,)))
        self.assertEqual(turned(((1,), (2,), (3,))), ((1, 2, 3),))
        self.assertEqual(turned(((7,),)), ((7,),))

    def test_cell_by_cell(self):
        for picture in PICTURES:
            told = turned(picture)
            self.assertIs(is_picture(told), True)
            self.assertEqual((len(told[0]), len(told)), (len(picture), len(picture[0])))
            for y, row in enumerate(picture):
                for x, cell in enumerate(row):
                    self.assertEqual(told[x][y], cell)

    def test_twice_is_the_picture(self):
        for picture in PICTURES:
            self.assertEqual(turned(turned(picture)), picture)


class MirroredTest(unittest.TestCase):
    def test_each_row_from_behind(self):
        self.assertEqual(mirrored(SMALL), ((3, 2, 1), (60, 50, 40)))

    def test_one_row_one_column_one_cell(self):
        self.assertEqual(mirrored(((1, 2, 3, 4),)), ((4, 3, 2, 1),))
        self.assertEqual(mirrored(((1,), (2,), (3,))), ((1,), (2,), (3,)))
        self.assertEqual(mirrored(((7,),)), ((7,),))

    def test_cell_by_cell(self):
        for picture in PICTURES:
            told = mirrored(picture)
            self.assertIs(is_picture(told), True)
            self.assertEqual(told, tuple(tuple(reversed(row)) for row in picture))


class CountedTest(unittest.TestCase):
    def test_how_often_each_stands_there(self):
        self.assertEqual(counted(((5, 0, 5), (99, 5, 0))), [(0, 2), (5, 3), (99, 1)])
        self.assertEqual(counted(((0,),)), [(0, 1)])
        self.assertEqual(counted(((99,) * 20,) * 20), [(99, 400)])

    def test_rising_by_number_not_by_figures(self):
        self.assertEqual(counted(((10, 9, 2),)), [(2, 1), (9, 1), (10, 1)])

    def test_a_list_of_tuples(self):
        for picture in PICTURES:
            told = counted(picture)
            cells = [cell for row in picture for cell in row]
            self.assertIsInstance(told, list)
            self.assertTrue(all(type(pair) is tuple for pair in told))
            self.assertEqual(told, [(cell, cells.count(cell)) for cell in range(100) if cell in cells])

    def test_a_new_list_each_time(self):
        first = counted(SMALL)
        second = counted(SMALL)
        self.assertIsNot(first, second)
        first.clear()
        first.append("other")
        self.assertEqual(second, [(1, 1), (2, 1), (3, 1), (40, 1), (50, 1), (60, 1)])
        self.assertEqual(counted(SMALL), second)


class BrightnessTest(unittest.TestCase):
    def test_the_sum_of_all_cells(self):
        self.assertEqual(brightness(SMALL), 156)
        self.assertEqual(brightness(((0,),)), 0)
        self.assertEqual(brightness(((99,),)), 99)
        self.assertEqual(brightness(((1, 2, 3),)), 6)
        self.assertEqual(brightness(((1,), (2,), (4,))), 7)
        self.assertEqual(brightness(((99,) * 20,) * 20), 39600)

    def test_each_cell_counts(self):
        for picture in PICTURES:
            self.assertEqual(brightness(picture), sum(cell for row in picture for cell in row))


if __name__ == "__main__":
    unittest.main()
