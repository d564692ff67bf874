"""Stage 6: narrowed, cleared, orders of columns and rows; [0.2] (b), (c), (g) of these."""

import itertools
import unittest

import brute
from samples import LARGE, MANNERS, PICTURES, SMALL, TINY, all_marks, patterned, shaded
from seamhall.errors import NoDeeds, NoWidth
from seamhall.pictures import is_picture, turned
from seamhall.seams import cells_of, cost_of, cut, least_seam, put_back
from seamhall.shrinking import best_order, by_order, cleared, history, loss, narrowed, rebuilt


def cases():
    """Tiny pictures with marks and manners; of one size fewer, since each is narrowed again and again."""
    for picture in TINY:
        for marks in [None] + all_marks(len(picture[0]), len(picture)):
            for manner in MANNERS:
                yield picture, manner, marks


def texts(down, across):
    """All orders of across c and down r, rising."""
    return sorted({"".join(signs) for signs in itertools.permutations("c" * across + "r" * down)})


class NarrowedTest(unittest.TestCase):
    def test_seam_by_seam(self):
        for picture, manner, marks in cases():
            for wide in range(1, len(picture[0]) + 1):
                told = (narrowed(picture, wide, manner=manner, marks=marks),
                        history(picture, wide, manner=manner, marks=marks))
                right = brute.narrowing(picture, wide, manner, marks)
                self.assertEqual(told, (None, None) if right is None else right[:2], (picture, manner, marks, wide))
                if marks is None:
                    self.assertEqual(loss(picture, wide, manner=manner), right[2])

    def test_left_out(self):
        for picture in TINY:
            self.assertEqual(narrowed(picture, 1), narrowed(picture, 1, manner="worth", marks=None))
            self.assertEqual(history(picture, 1), history(picture, 1, manner="worth", marks=None))
            self.assertEqual(loss(picture, 1), loss(picture, 1, manner="worth"))

    def test_as_wide_as_it_is_nothing_is_taken(self):
        for picture in PICTURES:
            wide = len(picture[0])
            for marks in (None, ((1,) * wide,) * len(picture), ((2,) * wide,) * len(picture)):
                self.assertEqual(narrowed(picture, wide, marks=marks), picture)
                self.assertEqual(history(picture, wide, marks=marks), [])
            self.assertEqual(loss(picture, wide), 0)

    def test_marks_go_with_the_picture(self):
        picture = ((5, 5, 5, 5),)
        self.assertEqual(history(picture, 2, marks=((1, 0, 2, 2),)), [((2,), (5,)), ((2,), (5,))])
        self.assertEqual(history(((1, 2, 3, 4),), 1, marks=((1, 0, 0, 0),)),
                         [((3,), (4,)), ((2,), (3,)), ((1,), (2,))])
        self.assertEqual(narrowed(((1, 2, 3, 4),), 1, marks=((1, 0, 0, 0),)), ((1,),))

    def test_none_on_the_way(self):
        self.assertEqual(narrowed(((1, 2, 3, 4),), 2, marks=((1, 0, 1, 0),)), ((1, 3),))
        self.assertIsNone(narrowed(((1, 2, 3, 4),), 1, marks=((1, 0, 1, 0),)))
        self.assertIsNone(history(((1, 2, 3, 4),), 1, marks=((1, 0, 1, 0),)))

    def test_each_seam_costs_in_the_picture_as_it_is_then(self):
        for picture in LARGE:
            for manner in MANNERS:
                total, left = 0, picture
                for wide in range(20, 0, -1):
                    if wide in (20, 19, 18, 12, 2, 1):
                        self.assertEqual(narrowed(picture, wide, manner=manner), left)
                        self.assertEqual(loss(picture, wide, manner=manner), total)
                    seam = least_seam(left, manner=manner)
                    total += cost_of(left, seam, manner=manner)
                    left = cut(left, seam)

    def test_large_ones_with_marks(self):
        for picture in LARGE:
            for marks in all_marks(20, 20)[-5:]:
                for manner in MANNERS:
                    steps = history(picture, 12, manner=manner, marks=marks)
                    left, marked = picture, marks
                    for _ in range(8):
                        seam = None if left is None else least_seam(left, manner=manner, marks=marked)
                        left = None if seam is None else cut(left, seam)
                        marked = None if seam is None else brute.without(marked, seam)
                    self.assertEqual(narrowed(picture, 12, manner=manner, marks=marks), left)
                    self.assertEqual(steps is None, left is None)


class RebuiltTest(unittest.TestCase):
    def test_a_narrowed_picture_and_its_history_make_up_the_first_one(self):
        for picture, manner, marks in cases():
            for wide in range(1, len(picture[0]) + 1):
                steps = history(picture, wide, manner=manner, marks=marks)
                if steps is not None:
                    left = narrowed(picture, wide, manner=manner, marks=marks)
                    self.assertEqual(len(steps), len(picture[0]) - wide)
                    self.assertEqual(rebuilt(left, steps), picture)

    def test_large_ones(self):
        for picture in LARGE:
            for manner in MANNERS:
                for wide in (1, 7, 19, 20):
                    steps = history(picture, wide, manner=manner)
                    self.assertEqual(rebuilt(narrowed(picture, wide, manner=manner), steps), picture)

    def test_the_last_one_first(self):
        steps = [((0,), (1,)), ((1,), (2,)), ((0,), (3,))]
        self.assertEqual(rebuilt(((9,),), steps), ((1, 3, 2, 9),))

    def test_any_seam_and_any_cells(self):
        for picture in TINY:
            wide, high = len(picture[0]), len(picture)
            cells = (0, 99, 1, 50, 7)[:high]
            for seam in brute.seams(wide + 1, high):
                first = put_back(picture, seam, cells)
                self.assertEqual(rebuilt(picture, [(seam, cells)]), first)
                other = (wide + 1,) * high
                self.assertEqual(rebuilt(picture, [(other, cells), (seam, cells)]), put_back(first, other, cells))

    def test_no_steps(self):
        for picture in PICTURES:
            self.assertEqual(rebuilt(picture, []), picture)

    def test_up_to_20_wide(self):
        for wide in range(1, 21):
            picture = patterned(wide, 2)
            steps = [((0, 0), (5, 6))] * (20 - wide)
            self.assertEqual(rebuilt(picture, steps), tuple((cell,) * (20 - wide) + row
                                                            for cell, row in zip((5, 6), picture)))
            with self.assertRaises(NoDeeds):
                rebuilt(picture, steps + [((0, 0), (5, 6))])

    def test_steps_that_can_not_be_put_back(self):
        right = ((1, 1), (5, 6))
        for seam in ((4, 4), (-1, 0), (0, 2), (0,), (0, 0, 0), [0, 0], (True, 1), (None, 0), "00", None, ()):
            for steps in ([(seam, (5, 6))], [right, (seam, (5, 6))], [(seam, (5, 6)), right, right][::-1]):
                with self.assertRaises(NoDeeds):
                    rebuilt(SMALL, steps)
        for cells in ((5,), (5, 6, 7), [5, 6], (5, 100), (-1, 5), (True, 5), (5, None), "56", None, ()):
            for steps in ([((0, 0), cells)], [right, ((0, 0), cells)], [((0, 0), cells), right]):
                with self.assertRaises(NoDeeds):
                    rebuilt(SMALL, steps)

    def test_a_step_further_on_has_more_room(self):
        self.assertEqual(rebuilt(((5,),), [((2,), (7,)), ((1,), (6,))]), ((5, 6, 7),))
        with self.assertRaises(NoDeeds):
            rebuilt(((5,),), [((1,), (6,)), ((2,), (7,))])

    def test_no_list_of_steps(self):
        step = ((1, 1), (5, 6))
        for steps in ((step,), (), None, step, [list(step)], [step + (1,)], [step[:1]], [()], [None], ["ab"], [[]],
                      [step, None], [None, step], {0: step}, "", 0, True, [True], [(step,)], [(step, step)]):
            with self.assertRaises(NoDeeds):
                rebuilt(SMALL, steps)


class ClearedTest(unittest.TestCase):
    def test_seam_by_seam(self):
        for picture, manner, marks in cases():
            self.assertEqual(cleared(picture, marks, manner=manner), brute.clearing(picture, marks, manner),
                             (picture, manner, marks))

    def test_left_out(self):
        for picture in TINY:
            marks = all_marks(len(picture[0]), len(picture))[-1]
            self.assertEqual(cleared(picture, marks), cleared(picture, marks, manner="worth"))

    def test_nothing_to_be_gone(self):
        for picture in PICTURES:
            wide, high = len(picture[0]), len(picture)
            for marks in (None, ((0,) * wide,) * high, ((1,) * wide,) * high):
                self.assertEqual(cleared(picture, marks), [])

    def test_one_wide_then(self):
        self.assertIsNone(cleared(((5,), (6,)), ((0,), (2,))))
        self.assertIsNone(cleared(((5, 6),), ((2, 2),)))
        self.assertEqual(cleared(((5, 6, 7),), ((2, 0, 2),)), [(0,), (1,)])

    def test_one_is_left_and_there_is_no_seam(self):
        self.assertIsNone(cleared(SMALL, ((2, 0, 0), (1, 1, 1))))
        self.assertIsNone(cleared(((1, 2, 3), (4, 5, 6)), ((2, 1, 1), (1, 1, 0))))

    def test_one_out_of_reach_stays_so(self):
        picture = ((0, 50, 99, 0, 7), (0, 0, 0, 0, 7))
        for manner in MANNERS:
            self.assertIsNone(cleared(picture, ((2, 0, 0, 0, 0), (1, 1, 0, 0, 0)), manner=manner))
            self.assertIsNone(cleared(picture, ((2, 0, 0, 0, 2), (1, 1, 0, 0, 0)), manner=manner))
            self.assertEqual(len(cleared(picture, ((0, 2, 0, 0, 2), (1, 1, 0, 0, 0)), manner=manner)), 2)

    def test_large_ones(self):
        box = tuple(tuple(2 if 5 <= x < 9 and 3 <= y < 15 else 0 for x in range(20)) for y in range(20))
        for picture in LARGE:
            for manner in MANNERS:
                seams = cleared(picture, box, manner=manner)
                self.assertEqual(len(seams), 4)
                marks = box
                for seam in seams:
                    self.assertEqual(brute.gone(seam, marks), 12)
                    marks = brute.without(marks, seam)
                self.assertEqual({mark for row in marks for mark in row}, {0})
                self.assertIsNone(cleared(picture, ((2,) * 20,) * 20, manner=manner))

    def test_all_but_one_column_of_the_largest(self):
        marks = ((2,) * 19 + (0,),) * 20
        self.assertEqual(len(cleared(LARGE[3], marks)), 19)


class ByOrderTest(unittest.TestCase):
    def test_all_orders(self):
        for picture in TINY:
            for across in range(min(len(picture[0]), 3)):
                for down in range(min(len(picture), 3)):
                    for text in texts(down, across):
                        for manner in MANNERS:
                            self.assertEqual(by_order(picture, text, manner=manner),
                                             brute.ordered(picture, text, manner)[1], (picture, text, manner))

    def test_left_out(self):
        for picture in TINY:
            text = "c" * (len(picture[0]) - 1) + "r" * (len(picture) - 1)
            self.assertEqual(by_order(picture, text), by_order(picture, text, manner="worth"))

    def test_no_signs(self):
        for picture in PICTURES:
            self.assertEqual(by_order(picture, ""), picture)

    def test_columns_alone_and_rows_alone(self):
        for picture in PICTURES:
            wide, high = len(picture[0]), len(picture)
            for manner in MANNERS:
                self.assertEqual(by_order(picture, "c" * (wide - 1), manner=manner),
                                 narrowed(picture, 1, manner=manner))
                self.assertEqual(by_order(picture, "r" * (high - 1), manner=manner),
                                 turned(narrowed(turned(picture), 1, manner=manner)))

    def test_down_to_one_cell(self):
        for text in ("c" * 19 + "r" * 19, "cr" * 19, "r" * 19 + "c" * 19):
            told = by_order(LARGE[3], text)
            self.assertIs(is_picture(told), True)
            self.assertEqual((len(told), len(told[0])), (1, 1))

    def test_what_would_leave_nothing(self):
        for picture in TINY:
            wide, high = len(picture[0]), len(picture)
            for text in ("c" * wide, "r" * high, "c" * wide + "r", "r" * high + "c", "cr" * max(wide, high),
                         "c" * 1000):
                with self.assertRaises(NoDeeds):
                    by_order(picture, text)

    def test_no_such_text(self):
        for text in ("C", "R", "cR", "x", "c ", " c", "c r", "c\n", "rc.", "columns", None, 0, True, ["c"], ("c", "r"),
                     ("c",), [], (), 99, -1, ["c", "r"]):
            with self.assertRaises(NoDeeds):
                by_order(LARGE[3], text)


class BestOrderTest(unittest.TestCase):
    def test_no_order_costs_less(self):
        for picture in TINY:
            for across in range(min(len(picture[0]), 4)):
                for down in range(min(len(picture), 4)):
                    for manner in MANNERS:
                        right = min((brute.ordered(picture, text, manner)[0], text) for text in texts(down, across))
                        self.assertEqual(best_order(picture, down, across, manner=manner), right,
                                         (picture, down, across, manner))

    def test_4_and_4(self):
        picture = shaded(5, 5, 100, 9)
        for manner in MANNERS:
            right = min((brute.ordered(picture, text, manner)[0], text) for text in texts(4, 4))
            self.assertEqual(best_order(picture, 4, 4, manner=manner), right)

    def test_left_out(self):
        for picture in TINY:
            down, across = min(len(picture), 3) - 1, min(len(picture[0]), 3) - 1
            self.assertEqual(best_order(picture, down, across), best_order(picture, down, across, manner="worth"))

    def test_of_several_the_first_text(self):
        for manner in MANNERS:
            self.assertEqual(best_order(LARGE[0], 4, 4, manner=manner), (0, "ccccrrrr"))
            self.assertEqual(best_order(LARGE[0], 1, 2, manner=manner), (0, "ccr"))

    def test_down_is_r_and_across_is_c(self):
        for picture in LARGE:
            for down, across in ((0, 0), (4, 0), (0, 4), (1, 2), (3, 1)):
                cost, text = best_order(picture, down, across)
                self.assertEqual((text.count("r"), text.count("c"), len(text)), (down, across, down + across))
        self.assertEqual(best_order(LARGE[3], 0, 3)[0], loss(LARGE[3], 17))
        self.assertEqual(best_order(LARGE[3], 3, 0)[0], loss(turned(LARGE[3]), 17))
        self.assertEqual(best_order(LARGE[3], 0, 0), (0, ""))

    def test_a_tuple_of_a_whole_number_and_a_text(self):
        told = best_order(SMALL, 1, 1)
        self.assertIs(type(told), tuple)
        self.assertEqual([type(part) for part in told], [int, str])

    def test_large_ones(self):
        for picture in LARGE:
            for manner in MANNERS:
                cost, text = best_order(picture, 4, 4, manner=manner)
                total, left = 0, picture
                for sign in text:
                    made = left if sign == "c" else turned(left)
                    seam = least_seam(made, manner=manner)
                    total += cost_of(made, seam, manner=manner)
                    made = cut(made, seam)
                    left = made if sign == "c" else turned(made)
                self.assertEqual(total, cost)
                self.assertEqual(by_order(picture, text, manner=manner), left)

    def test_as_many_as_it_is_high_or_wide(self):
        for wide, high in ((1, 1), (1, 3), (3, 1), (2, 4), (4, 2), (4, 4)):
            picture = patterned(wide, high)
            self.assertEqual(len(best_order(picture, high - 1, wide - 1)[1]), wide + high - 2)
            for down, across in ((high, wide - 1), (high - 1, wide), (high, wide), (high, 0), (0, wide)):
                with self.assertRaises(NoWidth):
                    best_order(picture, down, across)

    def test_no_more_than_4(self):
        for down, across in ((5, 0), (0, 5), (5, 5), (-1, 0), (0, -1), (19, 0), (20, 20)):
            with self.assertRaises(NoWidth):
                best_order(LARGE[0], down, across)

    def test_cells_of_the_taken_seams(self):
        for picture in LARGE:
            for seam, cells in history(picture, 19):
                self.assertEqual(cells, cells_of(picture, seam))


if __name__ == "__main__":
    unittest.main()
