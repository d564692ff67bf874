"""[2.1] what a cell's worth is, [2.2] worths, and [0.3] as far as it speaks of them."""

import copy
import unittest

from brute import worth_at
from samples import NO_PICTURES, PICTURES, SMALL
from seamhall.errors import NoPicture
from seamhall.pictures import mirrored, turned
from seamhall.worths import worths


class WorthsTest(unittest.TestCase):
    def test_within(self):
        picture = ((0, 10, 0), (7, 50, 30), (0, 14, 0))
        self.assertEqual(worths(picture)[1][1], 23 + 4)

    def test_a_whole_picture(self):
        self.assertEqual(worths(SMALL), ((1 + 39, 2 + 48, 1 + 57), (10 + 39, 20 + 48, 10 + 57)))

    def test_neither_way_makes_up_for_the_other(self):
        falling = ((50, 50, 50), (90, 50, 10), (50, 20, 50))
        self.assertEqual(worths(falling)[1][1], 80 + 30)
        self.assertEqual(worths(mirrored(falling))[1][1], 80 + 30)

    def test_one_cell_is_worth_nothing(self):
        for cell in (0, 1, 99):
            self.assertEqual(worths(((cell,),)), ((0,),))

    def test_one_row(self):
        self.assertEqual(worths(((1, 4, 9, 2),)), ((3, 8, 2, 7),))
        self.assertEqual(worths(((0, 99),)), ((99, 99),))

    def test_one_column(self):
        self.assertEqual(worths(((1,), (4,), (9,), (2,))), ((3,), (8,), (2,), (7,)))
        self.assertEqual(worths(((99,), (0,))), ((99,), (99,)))

    def test_the_cell_itself_counts_at_an_end_alone(self):
        self.assertEqual(worths(((5, 0, 5),))[0][1], 0)
        self.assertEqual(worths(((5, 99, 5),)), ((94, 0, 94),))

    def test_the_ends_do_not_meet(self):
        self.assertEqual(worths(((10, 10, 10, 70, 90),))[0][0], 0)
        self.assertEqual(worths(((10,), (10,), (10,), (70,), (90,)))[0][0], 0)
        self.assertEqual(worths(((90, 70, 10, 10, 10),))[0][4], 0)

    def test_the_greatest_worth(self):
        self.assertEqual(worths(((0, 99), (99, 0))), ((198, 198), (198, 198)))

    def test_one_grey_is_worth_nothing(self):
        self.assertEqual(worths(((42,) * 20,) * 20), ((0,) * 20,) * 20)

    def test_20_long(self):
        rising = tuple(range(0, 100, 5))
        expected = (5,) + (10,) * 18 + (5,)
        self.assertEqual(worths((rising,)), (expected,))
        self.assertEqual(worths(turned((rising,))), turned((expected,)))

    def test_cell_by_cell(self):
        for picture in PICTURES:
            told = worths(picture)
            wide, high = len(picture[0]), len(picture)
            self.assertEqual(told, tuple(tuple(worth_at(picture, x, y) for x in range(wide)) for y in range(high)))

    def test_a_tuple_of_tuples_of_whole_numbers(self):
        for picture in PICTURES:
            told = worths(picture)
            self.assertIs(type(told), tuple)
            for row in told:
                self.assertIs(type(row), tuple)
                self.assertTrue(all(type(worth) is int for worth in row))


class HandedInTest(unittest.TestCase):
    def test_what_is_no_picture_is_refused(self):
        for why, thing in NO_PICTURES.items():
            with self.subTest(why):
                before = copy.deepcopy(thing)
                with self.assertRaises(NoPicture):
                    worths(thing)
                self.assertEqual(repr(thing), repr(before))

    def test_a_picture_is_as_it_was(self):
        for picture in PICTURES:
            before = copy.deepcopy(picture)
            worths(picture)
            self.assertEqual(repr(picture), repr(before))


if __name__ == "__main__":
    unittest.main()
