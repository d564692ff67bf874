"""Stage 8: several seams at once; [0.2] (e)."""

import itertools
import unittest

import brute
from samples import LARGE, NO_PICTURES, PICTURES, SMALL, THINGS, TINY, patterned, shaded
from seamhall.errors import NoNumber, NoPicture
from seamhall.flows import prices, together
from seamhall.seams import cost_of, is_seam, least_seam

NO_NUMBERS = [thing for thing in THINGS if type(thing) is not int or not 1 <= thing <= 6]
NO_NUMBERS += [0, 7, -1, 8, 100, "1", "6", (1,), [1], 2 ** 64, (1, 2), [3, None]]

# Few enough seams to go through all sets of two and three of them.
SET_SIZES = [(2, 1), (2, 2), (2, 4), (3, 1), (3, 2), (3, 3), (3, 4), (4, 1), (4, 2), (4, 3), (4, 4), (5, 1), (5, 2),
             (5, 3), (6, 1), (6, 2), (7, 1)]
SET_PICTURES = [shaded(wide, high, shades, seed) for wide, high in SET_SIZES
                for shades, seed in ((1, 1), (2, 1), (3, 2), (10, 3), (100, 4), (100, 5))]

MANY_SIZES = [(1, 1), (1, 20), (20, 1), (2, 20), (20, 2), (6, 6), (6, 20), (7, 20), (5, 20), (13, 17), (20, 20), (9, 3)]
MANY_PICTURES = LARGE + [shaded(wide, high, shades, seed) for wide, high in MANY_SIZES
                         for shades, seed in ((2, 1), (5, 2), (100, 3))]
# Shades in stripes, in a slope and round a hole lead the seams far aside of one another.
MANY_PICTURES += [patterned(wide, high, turn) for wide, high in MANY_SIZES for turn in range(2)]
MANY_PICTURES += [tuple(tuple(99 * ((x - y) // 2 % 2) for x in range(20)) for y in range(20)),
                  tuple(tuple(99 * (6 < x < 13 and 6 < y < 13) * ((x + y) % 2) for x in range(20)) for y in range(20)),
                  tuple(tuple(abs(x - 10) * abs(y - 10) % 100 for x in range(20)) for y in range(20)),
                  tuple(tuple(99 * (x % 3 // 2) if abs(x - y) > 1 else 0 for x in range(20)) for y in range(20))]


def worth(picture, seam):
    return brute.cost(picture, seam, "worth")


def share(one, other):
    return any(a == b for a, b in zip(one, other))


def least_of_sets(picture, many):
    """What the least so many seams that share no cell cost, whether they cross or not; None, if none are so many."""
    seams = [(worth(picture, seam), frozenset(enumerate(seam)))
             for seam in brute.seams(len(picture[0]), len(picture))]

    def least(begin, cells, lacking):
        if lacking == 0:
            return 0
        told = []
        for at in range(begin, len(seams)):
            if not seams[at][1] & cells:
                rest = least(at + 1, cells | seams[at][1], lacking - 1)
                if rest is not None:
                    told.append(seams[at][0] + rest)
        return min(told, default=None)

    return least(0, frozenset(), many)


def least_sum(costs):
    """What the least seam costs by these costs of the cells."""
    row = list(costs[-1])
    for above in reversed(costs[:-1]):
        row = [cost + min(row[max(x - 1, 0):x + 2]) for x, cost in enumerate(above)]
    return min(row)


class FlowsTest(unittest.TestCase):
    def check_seams(self, picture, many, seams):
        self.assertIs(type(seams), list)
        self.assertEqual(len(seams), many)
        for seam in seams:
            self.assertIs(is_seam(seam, picture), True, seam)
        for one, other in zip(seams, seams[1:]):
            self.assertTrue(all(a < b for a, b in zip(one, other)), (picture, seams))

    def check_prices(self, picture, many, paper, cost):
        self.assertIs(type(paper), tuple)
        table, total = paper
        self.assertIs(type(total), int)
        self.assertIs(type(table), tuple)
        self.assertEqual([type(row) for row in table], [tuple] * len(picture))
        self.assertEqual([len(row) for row in table], [len(picture[0])] * len(picture))
        self.assertTrue(all(type(price) is int and price >= 0 for row in table for price in row))
        priced = [[brute.worth_at(picture, x, y) + price for x, price in enumerate(row)] for y, row in enumerate(table)]
        self.assertGreaterEqual(least_sum(priced), total)
        self.assertEqual(many * total - sum(sum(row) for row in table), cost)

    def check(self, picture, many):
        """Seams and paper fit each other, so that no others are cheaper; told is what the seams cost."""
        seams = together(picture, many)
        self.check_seams(picture, many, seams)
        cost = sum(worth(picture, seam) for seam in seams)
        self.assertEqual(cost, sum(cost_of(picture, seam) for seam in seams))
        self.check_prices(picture, many, prices(picture, many), cost)
        return cost


class TogetherTest(FlowsTest):
    def test_all_sets_of_two_and_three(self):
        for picture in SET_PICTURES:
            for many in (2, 3):
                right = least_of_sets(picture, many)
                if many > len(picture[0]):
                    self.assertIsNone(right)
                    self.assertIsNone(together(picture, many))
                    self.assertIsNone(prices(picture, many))
                else:
                    self.assertEqual(self.check(picture, many), right, (picture, many))

    def test_all_sets_of_more_where_there_are_few(self):
        for wide, high, many in ((4, 2, 4), (5, 2, 4), (5, 2, 5), (4, 3, 4), (6, 1, 5), (7, 1, 6), (6, 2, 6)):
            for shades in (2, 100):
                picture = shaded(wide, high, shades, 7)
                self.assertEqual(self.check(picture, many), least_of_sets(picture, many))

    def test_one_costs_what_the_least_seam_costs(self):
        for picture in TINY + PICTURES + MANY_PICTURES:
            self.assertEqual(self.check(picture, 1), cost_of(picture, least_seam(picture)))

    def test_as_many_as_it_is_wide(self):
        for wide in range(1, 7):
            for high in (1, 2, 5, 20):
                for shades in (1, 3, 100):
                    picture = shaded(wide, high, shades, 2)
                    self.assertEqual(together(picture, wide), [(x,) * high for x in range(wide)])
                    self.assertEqual(self.check(picture, wide),
                                     sum(brute.worth_at(picture, x, y) for x in range(wide) for y in range(high)))

    def test_more_than_it_is_wide(self):
        for wide in range(1, 6):
            for high in (1, 3, 20):
                picture = patterned(wide, high)
                for many in range(wide + 1, 7):
                    self.assertIsNone(together(picture, many))
                    self.assertIsNone(prices(picture, many))

    def test_the_paper_of_larger_ones(self):
        for picture in MANY_PICTURES:
            costs = [self.check(picture, many) for many in range(1, min(6, len(picture[0])) + 1)]
            more = [after - before for before, after in zip([0] + costs, costs)]
            self.assertEqual(more, sorted(more))

    def test_the_least_seam_may_stand_in_the_way(self):
        # Among these pictures are such in which the least seam and the least one beside it are not the least two.
        dearer = 0
        for picture in SET_PICTURES:
            if len(picture[0]) >= 2:
                first = brute.best(picture, "worth")
                beside = [worth(picture, seam) for seam in brute.seams(len(picture[0]), len(picture))
                          if not share(first, seam)]
                cost = self.check(picture, 2)
                dearer += not beside or worth(picture, first) + min(beside) > cost
        self.assertGreater(dearer, 5)

    def test_one_row(self):
        self.assertEqual(together(((0, 10, 30, 30, 31),), 2), [(3,), (4,)])
        self.assertEqual(together(((0, 10, 30, 30, 31),), 3), [(0,), (3,), (4,)])
        self.assertEqual(prices(((0, 10, 30, 30, 31),), 1)[1], 1)


class NumbersTest(unittest.TestCase):
    def test_no_numbers(self):
        for picture in (SMALL, ((5,),), LARGE[0]):
            for thing in NO_NUMBERS:
                with self.subTest(thing=thing):
                    with self.assertRaises(NoNumber):
                        together(picture, thing)
                    with self.assertRaises(NoNumber):
                        prices(picture, thing)

    def test_no_picture_comes_first(self):
        for thing in NO_PICTURES.values():
            for many in (1, 0, 7, None, True, "1"):
                for function in (together, prices):
                    with self.assertRaises(NoPicture):
                        function(thing, many)


class ToldTest(unittest.TestCase):
    def test_lists_are_new_ones(self):
        for picture in (SMALL, LARGE[3]):
            first, second = together(picture, 2), together(picture, 2)
            paper = prices(picture, 2)
            self.assertIsNot(first, second)
            first.clear()
            first.append(None)
            self.assertEqual(together(picture, 2), second)
            self.assertEqual(prices(picture, 2), paper)

    def test_sets_of_seams_are_found_by_these_tests_too(self):
        # The tests' own search over sets is held against the plainest one there is.
        picture = shaded(3, 3, 10, 1)
        seams = brute.seams(3, 3)
        right = min(worth(picture, one) + worth(picture, other) for one, other in itertools.combinations(seams, 2)
                    if not share(one, other))
        self.assertEqual(least_of_sets(picture, 2), right)


if __name__ == "__main__":
    unittest.main()
