"""Stage 4: all seams by number, and the best ones; [0.2] (a), (b), (f) of these."""

import unittest

import brute
from samples import LARGE, MANNERS, SMALL, TINY, all_marks, patterned
from seamhall.errors import NoNumber
from seamhall.ranks import best_seams, how_many, is_least, number_of, seam_at
from seamhall.seams import cost_of, is_seam, least_seam


def cases():
    """Tiny pictures with marks."""
    for picture in TINY:
        for marks in [None] + all_marks(len(picture[0]), len(picture)):
            yield picture, marks


def listed(picture, manner, marks):
    """All seams through no kept cell as tuples (cost, seam), rising."""
    return sorted((brute.cost(picture, seam, manner), seam) for seam in brute.open_seams(picture, marks))


class HowManyTest(unittest.TestCase):
    def test_all_through_no_kept_cell(self):
        for picture, marks in cases():
            self.assertEqual(how_many(picture, marks=marks), len(brute.open_seams(picture, marks)), (picture, marks))

    def test_left_out(self):
        for picture in TINY:
            self.assertEqual(how_many(picture), how_many(picture, marks=None))

    def test_one_wide_one_high_and_the_largest(self):
        self.assertEqual(how_many(((4,),) * 20), 1)
        self.assertEqual(how_many(((4,) * 20,)), 20)
        for picture in LARGE:
            self.assertEqual(how_many(picture), 17698806798)

    def test_cells_to_be_gone_do_not_matter(self):
        for picture in LARGE:
            self.assertEqual(how_many(picture, marks=((2, 0) * 10,) * 20), 17698806798)

    def test_none_where_a_row_is_kept_whole(self):
        for at in range(20):
            marks = tuple((1 if y == at else 0,) * 20 for y in range(20))
            self.assertEqual(how_many(LARGE[0], marks=marks), 0)


class NumbersTest(unittest.TestCase):
    def test_numbers_and_seams_lead_to_each_other(self):
        for picture, marks in cases():
            right = brute.open_seams(picture, marks)
            told = [seam_at(picture, number, marks=marks) for number in range(len(right))]
            self.assertEqual(told, right, (picture, marks))
            self.assertEqual([number_of(picture, seam, marks=marks) for seam in right], list(range(len(right))))

    def test_none_through_a_kept_cell(self):
        for picture, marks in cases():
            right = brute.open_seams(picture, marks)
            for seam in brute.seams(len(picture[0]), len(picture)):
                if seam not in right:
                    self.assertIsNone(number_of(picture, seam, marks=marks))

    def test_no_number_beyond_the_last(self):
        for picture, marks in cases():
            many = len(brute.open_seams(picture, marks))
            for number in (-1, many, many + 1, -many - 1, 10 ** 30):
                with self.assertRaises(NoNumber):
                    seam_at(picture, number, marks=marks)

    def test_left_out(self):
        for picture in TINY:
            for number, seam in enumerate(brute.seams(len(picture[0]), len(picture))):
                self.assertEqual(seam_at(picture, number), seam)
                self.assertEqual(number_of(picture, seam), number)

    def test_tuples_of_whole_numbers(self):
        told = seam_at(SMALL, 3)
        self.assertIs(type(told), tuple)
        self.assertEqual([type(place) for place in told], [int, int])
        self.assertIs(type(number_of(SMALL, told)), int)

    def test_large_ones(self):
        for marks in [None] + all_marks(20, 20):
            picture = LARGE[3]
            many = how_many(picture, marks=marks)
            numbers = sorted({number for number in (0, 1, 2, many // 7, many // 2, many - 2, many - 1)
                              if 0 <= number < many})
            told = [seam_at(picture, number, marks=marks) for number in numbers]
            self.assertEqual(told, sorted(told))
            for number, seam in zip(numbers, told):
                self.assertIs(is_seam(seam, picture), True)
                self.assertTrue(marks is None or all(row[x] != 1 for row, x in zip(marks, seam)))
                self.assertEqual(number_of(picture, seam, marks=marks), number)
            with self.assertRaises(NoNumber):
                seam_at(picture, many, marks=marks)

    def test_the_first_and_the_last_of_the_largest(self):
        self.assertEqual(seam_at(LARGE[0], 0), (0,) * 20)
        self.assertEqual(seam_at(LARGE[0], 1), (0,) * 19 + (1,))
        self.assertEqual(seam_at(LARGE[0], 2), (0,) * 18 + (1, 0))
        self.assertEqual(seam_at(LARGE[0], 17698806797), (19,) * 20)


class BestSeamsTest(unittest.TestCase):
    def test_the_first_so_many_of_all(self):
        for picture, marks in cases():
            for manner in MANNERS:
                right = listed(picture, manner, marks)
                for many in (1, 2, 7, 59, 60):
                    self.assertEqual(best_seams(picture, many, manner=manner, marks=marks), right[:many],
                                     (picture, manner, marks, many))

    def test_each_many_from_1_to_60(self):
        picture = TINY[-2]
        for manner in MANNERS:
            right = listed(picture, manner, None)
            self.assertGreater(len(right), 60)
            for many in range(1, 61):
                self.assertEqual(best_seams(picture, many, manner=manner), right[:many])

    def test_all_where_there_are_fewer(self):
        self.assertEqual(best_seams(((4,),) * 20, 60), [(0, (0,) * 20)])
        self.assertEqual(best_seams(((1, 4, 9),), 60), [(3, (0,)), (5, (2,)), (8, (1,))])
        self.assertEqual(len(best_seams(patterned(20, 1), 60)), 20)

    def test_none_where_a_row_is_kept_whole(self):
        self.assertEqual(best_seams(SMALL, 5, marks=((1, 1, 1), (0, 0, 0))), [])

    def test_cells_to_be_gone_do_not_matter(self):
        for picture, marks in cases():
            if marks is not None:
                freed = tuple(tuple(mark % 2 for mark in row) for row in marks)
                for manner in MANNERS:
                    self.assertEqual(best_seams(picture, 60, manner=manner, marks=marks),
                                     best_seams(picture, 60, manner=manner, marks=freed))

    def test_left_out(self):
        for picture in TINY:
            self.assertEqual(best_seams(picture, 9), listed(picture, "worth", None)[:9])

    def test_a_list_of_tuples(self):
        told = best_seams(SMALL, 60)
        self.assertIs(type(told), list)
        self.assertEqual({type(part) for part in told}, {tuple})
        self.assertEqual({type(part) for pair in told for part in pair}, {int, tuple})

    def test_large_ones(self):
        for picture in LARGE:
            for manner in MANNERS:
                told = best_seams(picture, 60, manner=manner)
                self.assertEqual(len({seam for cost, seam in told}), 60)
                self.assertEqual(told, sorted(told))
                self.assertEqual(told[0][1], least_seam(picture, manner=manner))
                self.assertEqual([cost for cost, seam in told],
                                 [cost_of(picture, seam, manner=manner) for cost, seam in told])
                self.assertEqual(best_seams(picture, 17, manner=manner), told[:17])

    def test_one_shade_of_the_largest_size(self):
        for manner in MANNERS:
            self.assertEqual(best_seams(LARGE[0], 60, manner=manner),
                             [(0, seam_at(LARGE[0], number)) for number in range(60)])


class IsLeastTest(unittest.TestCase):
    def test_whether_none_is_cheaper(self):
        for picture, marks in cases():
            for manner in MANNERS:
                right = listed(picture, manner, marks)
                some = brute.seams(len(picture[0]), len(picture))[::7]
                for seam in some + tuple(seam for cost, seam in right[:3] + right[-1:]):
                    expected = (brute.cost(picture, seam, manner), seam) in right \
                        and brute.cost(picture, seam, manner) == right[0][0]
                    self.assertIs(is_least(picture, seam, manner=manner, marks=marks), expected)

    def test_cells_to_be_gone_do_not_matter(self):
        marks = ((0, 0, 2), (0, 0, 2))
        self.assertEqual(least_seam(SMALL, marks=marks), (2, 2))
        self.assertIs(is_least(SMALL, (2, 2), marks=marks), False)
        self.assertIs(is_least(SMALL, (0, 0), marks=marks), True)

    def test_kept_cells_do(self):
        self.assertIs(is_least(SMALL, (0, 0)), True)
        self.assertIs(is_least(SMALL, (0, 0), marks=((1, 0, 0), (0, 0, 0))), False)
        self.assertIs(is_least(SMALL, (1, 0), marks=((1, 0, 0), (0, 0, 0))), True)
        self.assertIs(is_least(SMALL, (1, 0)), False)
        self.assertIs(is_least(SMALL, (1, 0), marks=((1, 1, 1), (0, 0, 0))), False)

    def test_large_ones(self):
        for picture in LARGE:
            for manner in MANNERS:
                least = least_seam(picture, manner=manner)
                self.assertIs(is_least(picture, least, manner=manner), True)
                for seam in ((19,) * 20, tuple(range(20))):
                    expected = cost_of(picture, seam, manner=manner) == cost_of(picture, least, manner=manner)
                    self.assertIs(is_least(picture, seam, manner=manner), expected)


if __name__ == "__main__":
    unittest.main()
