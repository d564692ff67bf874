"""Stage 10: logs; [0.2] (h), and [0.3] of these."""

import copy
import itertools
import random
import unittest

import brute
import plain
from samples import LARGE, MANNERS, NO_PICTURES, PICTURES, SMALL, THINGS, TINY, deep, patterned, shaded
from seamhall import errors
from seamhall.desks import Desk
from seamhall.errors import NoDeeds, NoManner, NoPicture
from seamhall.logs import fitted, origin_of, replayed
from seamhall.texts import log_text, read_log

PICTURE = ((5, 9, 2, 30), (40, 7, 60, 1), (8, 8, 1, 99))
DEEDS = [("keep", 1, 0, 2, 1), ("narrow",), ("drop", 0, 0, 1, 3), ("widen",), ("flatten",), ("free", 0, 0, 1, 1)]

# Each by itself is no deed, so no list with one of them in it is one of deeds.
NO_DEEDS = [
    None, True, 0, 1, -1, "", "narrow", "keep 0 0 1 1", (), [], ["narrow"], [("narrow",)], (("narrow",),), ("narrow",
    1), ("narrow", None), ("narrow", ()), ("Narrow",), ("narrow ",), (" narrow",), ("narrow\n",), ("back",), ("forth",),
    ("twin",), ("picture",), ("do_deed",), ("log",), ("",), (None,), (True,), (0,), (1,), ([],), (["narrow"],),
    (("narrow",), 1), ("keep",), ("keep", 0, 0), ("keep", 0, 0, 1), ("keep", 0, 0, 1, 1, 1), ["keep", 0, 0, 1, 1],
    ("keep", (0, 0, 1, 1)), ("keep", [0, 0, 1, 1]), ("KEEP", 0, 0, 1, 1), (0, 0, 1, 1, "keep"), (0, 0, 0, 1, 1),
    ("widen", 0, 0, 1, 1), ("kept", 0, 0, 1, 1), ("keep 0 0 1 1",), (None, 0, 0, 1, 1), (True, 0, 0, 1, 1),
    ({"keep": 1}, 0, 0, 1, 1), (["keep"], 0, 0, 1, 1), deep("narrow", 6, tuple), deep("narrow", 6, list),
    deep(("narrow",), 5, list), ("keep", deep(0, 5, list), 0, 1, 1),
]
for at in range(1, 5):
    for part in (None, True, False, "0", "1", "", (), (1,), [1], [], ((1,),), deep(1, 5, tuple)):
        NO_DEEDS.append(("keep", 0, 0, 1, 1)[:at] + (part,) + ("keep", 0, 0, 1, 1)[at + 1:])

CAN_NOT_BE_DONE = [
    [("keep", -1, 0, 1, 1)], [("keep", 0, -1, 1, 1)], [("drop", 4, 0, 1, 1)], [("free", 0, 3, 1, 1)],
    [("keep", 0, 0, 5, 1)], [("keep", 0, 0, 1, 4)], [("keep", 0, 0, 0, 1)], [("keep", 0, 0, 1, 0)],
    [("keep", 0, 0, 10 ** 30, 1)], [("narrow",)] * 4, [("flatten",)] * 3, [("widen",)] * 17,
    [("keep", 0, 1, 4, 1), ("narrow",)], [("keep", 0, 1, 4, 1), ("widen",)], [("keep", 1, 0, 1, 3), ("flatten",)],
    [("narrow",), ("keep", 3, 0, 1, 1)], [("flatten",), ("keep", 0, 2, 1, 1)],
]


def drawn_desk(picture, manner, seed, many):
    """A desk behind drawn deeds, some of them taken back."""
    draw = random.Random(seed)
    desk = Desk(picture, manner=manner)
    for _ in range(many):
        try:
            plain.do(desk, plain.drawn_deed(draw, desk.size()))
        except errors.SeamError:
            pass
    return desk


def drawn_desks():
    for seed, picture in enumerate(TINY + [PICTURE, shaded(9, 8, 30, 1)]):
        yield picture, MANNERS[seed % 2], drawn_desk(picture, MANNERS[seed % 2], seed, 50)
    for seed, picture in enumerate(LARGE):
        yield picture, MANNERS[seed % 2], drawn_desk(picture, MANNERS[seed % 2], seed, 25)


class LogsTest(unittest.TestCase):
    def refused(self, error, call, *things, **named):
        """The very class it is refused with, and what was handed in is as it was."""
        before = repr((things, named))
        with self.assertRaises(errors.SeamError) as taken:
            call(*things, **named)
        self.assertIs(type(taken.exception), error, things)
        self.assertEqual(repr((things, named)), before)


class ReplayedTest(LogsTest):
    def test_from_logs(self):
        for picture, manner, desk in drawn_desks():
            made = replayed(picture, desk.log(), manner=manner)
            self.assertIs(type(made), Desk)
            self.assertTrue(made == desk)
            self.assertEqual(plain.now(made), {**plain.now(desk), "counts": (len(desk), 0)})

    def test_from_parts_of_logs(self):
        for picture, manner, desk in drawn_desks():
            deeds = desk.log()
            for many in sorted({0, 1, 2, len(deeds) // 2, max(len(deeds) - 1, 0)}):
                made = replayed(picture, deeds[:many], manner=manner)
                other = plain.PlainDesk(picture, manner)
                for deed in deeds[:many]:
                    other.do(deed)
                self.assertEqual(plain.now(made), other.now())

    def test_from_logs_read_back_from_their_text(self):
        for picture, manner, desk in drawn_desks():
            self.assertTrue(replayed(picture, read_log(log_text(desk.log())), manner=manner) == desk)

    def test_it_can_be_taken_back_deed_by_deed(self):
        desk = replayed(PICTURE, DEEDS)
        self.assertEqual([desk.back() for _ in DEEDS], DEEDS[::-1])
        self.assertTrue(desk == Desk(PICTURE))
        self.assertEqual(desk.counts(), (0, len(DEEDS)))

    def test_no_deeds_at_all(self):
        for picture in PICTURES:
            self.assertTrue(replayed(picture, []) == Desk(picture))

    def test_left_out(self):
        self.assertTrue(replayed(PICTURE, DEEDS) == replayed(PICTURE, DEEDS, manner="worth"))
        with self.assertRaises(TypeError):
            replayed(PICTURE, DEEDS, "worth")

    def test_no_list_of_deeds(self):
        for thing in [tuple(DEEDS), None, "narrow", "narrow\n", ("narrow",), {0: ("narrow",)}, 0, True, (DEEDS,),
                      [DEEDS], (("narrow",),), "", ()]:
            self.refused(NoDeeds, replayed, PICTURE, thing)
        for thing in THINGS:
            if thing != []:
                self.refused(NoDeeds, replayed, PICTURE, thing)

    def test_what_is_no_deed(self):
        for thing in NO_DEEDS:
            for deeds in ([thing], DEEDS + [thing], [thing] + DEEDS, DEEDS[:2] + [thing] + DEEDS[2:]):
                self.refused(NoDeeds, replayed, PICTURE, deeds)

    def test_what_can_not_be_done(self):
        for deeds in CAN_NOT_BE_DONE:
            for manner in MANNERS:
                self.refused(NoDeeds, replayed, PICTURE, deeds, manner=manner)
                self.refused(NoDeeds, replayed, PICTURE, deeds + [("keep", 0, 0, 1, 1)], manner=manner)
                self.refused(NoDeeds, replayed, PICTURE, [("keep", 0, 0, 1, 1)] + deeds, manner=manner)

    def test_what_can_not_be_done_in_this_order(self):
        self.assertEqual(len(replayed(PICTURE, [("widen",), ("keep", 4, 0, 1, 1)])), 2)
        self.refused(NoDeeds, replayed, PICTURE, [("keep", 4, 0, 1, 1), ("widen",)])

    def test_of_several_refusals(self):
        for thing in list(NO_PICTURES.values())[::5]:
            for deeds in (None, DEEDS, [None]):
                for manner in ("worth", None):
                    self.refused(NoPicture, replayed, thing, deeds, manner=manner)
        for manner in (None, "Worth", 1, True, [], ("worth",)):
            for deeds in (None, DEEDS, [None], CAN_NOT_BE_DONE[0]):
                self.refused(NoManner, replayed, PICTURE, deeds, manner=manner)

    def test_the_list_is_not_kept_nor_changed(self):
        deeds = list(DEEDS)
        desk = replayed(PICTURE, deeds)
        self.assertEqual(deeds, DEEDS)
        before = plain.now(desk)
        deeds.append(("narrow",))
        deeds.reverse()
        self.assertEqual(plain.now(desk), before)
        deeds.clear()
        self.assertEqual(plain.now(desk), before)
        desk.log().clear()
        desk.narrow()
        self.assertEqual(deeds, [])
        self.assertEqual(desk.log(), DEEDS + [("narrow",)])

    def test_two_of_one_list_share_nothing(self):
        one, other = replayed(PICTURE, DEEDS), replayed(PICTURE, DEEDS)
        before = plain.now(other)
        one.back()
        one.keep(0, 0)
        self.assertEqual(plain.now(other), before)

    def test_a_long_list(self):
        deeds = [("keep", 0, 0, 1, 1), ("free", 0, 0, 1, 1)] * 1000
        desk = replayed(PICTURE, deeds)
        self.assertEqual((len(desk), desk.counts()), (2000, (2000, 0)))
        deeds = [("widen",), ("narrow",)] * 300
        self.assertEqual(origin_of(replayed(PICTURE, deeds)), PICTURE)


class Told:
    """All that origin_of may ask: a picture and steps, and nothing else."""

    def __init__(self, desk):
        self.told = (desk.picture(), desk.steps())

    def picture(self):
        return self.told[0]

    def steps(self):
        return list(self.told[1])


class OriginTest(LogsTest):
    def test_behind_drawn_deeds(self):
        for picture, manner, desk in drawn_desks():
            before = plain.now(desk)
            self.assertEqual(origin_of(desk), picture)
            self.assertEqual(plain.now(desk), before)

    def test_narrow_flatten_and_widen_in_all_orders(self):
        for words in itertools.product(("narrow", "flatten", "widen"), repeat=4):
            for manner in MANNERS:
                picture = shaded(6, 6, 100, 5)
                desk = replayed(picture, [(word,) for word in words], manner=manner)
                self.assertEqual(origin_of(desk), picture)
                desk.back()
                self.assertEqual(origin_of(desk), picture)

    def test_down_to_one_cell_and_up_to_20(self):
        for picture in LARGE + [patterned(1, 20), patterned(20, 1), ((7,),)]:
            wide, high = len(picture[0]), len(picture)
            desk = replayed(picture, [("narrow",)] * (wide - 1) + [("flatten",)] * (high - 1) + [("widen",)] * 19)
            self.assertEqual(desk.size(), (20, 1))
            self.assertEqual(origin_of(desk), picture)

    def test_from_the_picture_and_the_steps_alone(self):
        for picture, manner, desk in drawn_desks():
            self.assertEqual(origin_of(Told(desk)), picture)

    def test_of_a_new_desk(self):
        for picture in PICTURES:
            self.assertEqual(origin_of(Desk(picture)), picture)

    def test_of_a_twin(self):
        for picture, manner, desk in drawn_desks():
            twin = desk.twin()
            while twin.counts()[1]:
                twin.forth()
            self.assertEqual(origin_of(twin), picture)


class FittedTest(LogsTest):
    def right(self, picture, wide, high, manner):
        """The plain desk, done as the words say: a deed again and again, as far as that can be."""
        desk = plain.PlainDesk(picture, manner)

        def done(word):
            try:
                desk.do((word,))
            except plain.Refused:
                return False
            return True

        while desk.now()["size"][0] > wide and done("narrow"):
            pass
        while desk.now()["size"][0] < wide and done("widen"):
            pass
        while desk.now()["size"][0] == wide and desk.now()["size"][1] > high and done("flatten"):
            pass
        return desk.now()

    def test_sizes_below_at_and_beyond_its_own(self):
        for picture in TINY:
            own_wide, own_high = len(picture[0]), len(picture)
            for wide in sorted({-3, 0, 1, 2, own_wide - 1, own_wide, own_wide + 1, 9}):
                for high in sorted({-3, 0, 1, 2, own_high - 1, own_high, own_high + 1, 20, 30}):
                    for manner in MANNERS:
                        desk = fitted(picture, wide, high, manner=manner)
                        self.assertIs(type(desk), Desk)
                        self.assertEqual(plain.now(desk), self.right(picture, wide, high, manner))

    def test_how_far_it_can_be(self):
        picture = shaded(6, 5, 100, 2)
        for wide, high, size in ((6, 5, (6, 5)), (4, 3, (4, 3)), (4, 9, (4, 5)), (9, 2, (9, 2)), (1, 1, (1, 1)),
                                 (0, 1, (1, 5)), (-7, 2, (1, 5)), (20, 1, (20, 1)), (21, 1, (20, 5)), (99, 3, (20, 5)),
                                 (6, 0, (6, 1)), (6, -4, (6, 1)), (3, 20, (3, 5)), (3, 21, (3, 5)),
                                 (10 ** 30, 1, (20, 5)), (-(10 ** 30), 1, (1, 5)), (5, -(10 ** 30), (5, 1))):
            for manner in MANNERS:
                desk = fitted(picture, wide, high, manner=manner)
                self.assertEqual(desk.size(), size)
                self.assertEqual(origin_of(desk), picture)
                self.assertTrue(replayed(picture, desk.log(), manner=manner) == desk)
                self.assertEqual(desk.counts(), (len(desk), 0))

    def test_what_the_log_has(self):
        picture = shaded(4, 3, 100, 2)
        self.assertEqual(fitted(picture, 2, 1).log(), [("narrow",)] * 2 + [("flatten",)] * 2)
        self.assertEqual(fitted(picture, 6, 2).log(), [("widen",)] * 2 + [("flatten",)])
        self.assertEqual(fitted(picture, 4, 3).log(), [])
        self.assertEqual(fitted(picture, 0, 1).log(), [("narrow",)] * 3)
        self.assertEqual(fitted(picture, 21, 1).log(), [("widen",)] * 16)

    def test_large_ones(self):
        for at, picture in enumerate(LARGE):
            desk = fitted(picture, 17, 18, manner=MANNERS[at % 2])
            self.assertEqual(plain.now(desk), self.right(picture, 17, 18, MANNERS[at % 2]))
            self.assertEqual(origin_of(desk), picture)

    def test_left_out(self):
        self.assertTrue(fitted(PICTURE, 2, 2) == fitted(PICTURE, 2, 2, manner="worth"))
        with self.assertRaises(TypeError):
            fitted(PICTURE, 2, 2, "worth")

    def test_refused(self):
        for thing in NO_PICTURES.values():
            self.refused(NoPicture, fitted, thing, 2, 2)
            self.refused(NoPicture, fitted, thing, 2, 2, manner=None)
        for thing in THINGS:
            if thing not in MANNERS:
                self.refused(NoManner, fitted, SMALL, 2, 2, manner=thing)

    def test_each_is_a_new_one(self):
        one, other = fitted(PICTURE, 2, 2), fitted(PICTURE, 2, 2)
        before = plain.now(other)
        kept = copy.deepcopy(before)
        one.back()
        one.widen()
        self.assertEqual(plain.now(other), kept)
        self.assertEqual(before, kept)

    def test_the_plain_way(self):
        # The least seam of each, found by going through all seams.
        picture = shaded(4, 4, 50, 3)
        desk = fitted(picture, 3, 3)
        left = brute.without(picture, brute.best(picture, "worth"))
        left = brute.turned(left)
        left = brute.turned(brute.without(left, brute.best(left, "worth")))
        self.assertEqual(desk.picture(), left)


if __name__ == "__main__":
    unittest.main()
