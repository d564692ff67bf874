"""Stage 9: desks; [0.2] (h) of these, and [0.3]."""

import copy
import inspect
import random
import unittest

import brute
import plain
from samples import LARGE, MANNERS, NO_PICTURES, PICTURES, SMALL, THINGS, TINY, all_marks, patterned, shaded
from seamhall import errors
from seamhall.desks import Desk
from seamhall.errors import NoBack, NoBox, NoManner, NoPicture, NoRoom, NoWay
from seamhall.logs import replayed
from seamhall.seams import cells_of, cut, doubled, least_seam

WIDE = ((5, 9, 2, 30), (40, 7, 60, 1), (8, 8, 1, 99))
BOXES = ("keep", "drop", "free")
MARK = {"keep": 1, "drop": 2, "free": 0}
NO_PARTS = [thing for thing in THINGS if type(thing) is not int] + ["0", "1", (1,), [1], (1, 1), ((1,),), [None]]


def box(desk, word, *parts, **named):
    return getattr(desk, word)(*parts, **named)


def some_desk(seed, deeds=30, picture=WIDE, manner="worth"):
    """A desk behind drawn deeds."""
    draw = random.Random(seed)
    desk = Desk(picture, manner=manner)
    for _ in range(deeds):
        try:
            plain.do(desk, plain.drawn_deed(draw, desk.size()))
        except errors.SeamError:
            pass
    return desk


class DeskTest(unittest.TestCase):
    def refused(self, error, call, *things, **named):
        """The very class it is refused with; told is the refusal."""
        with self.assertRaises(errors.SeamError) as taken:
            call(*things, **named)
        self.assertIs(type(taken.exception), error)
        return taken.exception

    def unchanged(self, desk, error, call, *things, **named):
        """It is refused so, and the desk is as it was."""
        before, whole = plain.now(desk), desk.twin()
        refusal = self.refused(error, call, *things, **named)
        self.assertEqual(plain.now(desk), before)
        self.assertTrue(desk == whole)
        return refusal


class PlainTest(unittest.TestCase):
    """The plain desk goes by a best seam of its own, which is held against going through all seams."""

    def test_the_swift_best_seam(self):
        for picture in TINY:
            for marks in all_marks(len(picture[0]), len(picture)):
                for manner in MANNERS:
                    self.assertEqual(brute.swift_best(picture, manner, marks), brute.best(picture, manner, marks))


class AgainstPlainTest(DeskTest):
    def both(self, desk, other, deed):
        try:
            right = ("told", plain.do_plain(other, deed))
        except plain.Refused as refusal:
            right = refusal.why
        try:
            told = ("told", plain.do(desk, deed))
        except errors.SeamError as refusal:
            told = (type(refusal).__name__, refusal.now if isinstance(refusal, NoRoom) else None)
        self.assertEqual(told, right, deed)
        self.assertEqual(plain.now(desk), other.now(), deed)
        return right[0]

    def run_deeds(self, picture, manner, seed, many):
        draw = random.Random(seed)
        desk, other = Desk(picture, manner=manner), plain.PlainDesk(picture, manner)
        self.assertEqual(plain.now(desk), other.now())
        return [self.both(desk, other, plain.drawn_deed(draw, desk.size())) for _ in range(many)]

    def test_small_ones(self):
        came = set()
        for seed, picture in enumerate(TINY):
            for manner in MANNERS:
                came |= set(self.run_deeds(picture, manner, seed, 120))
        self.assertEqual(came, {"told", "NoBox", "NoRoom", "NoWay", "NoBack"})

    def test_middling_ones(self):
        for seed, (wide, high) in enumerate(((7, 5), (6, 9), (1, 8), (8, 1), (19, 3), (3, 19), (20, 2), (2, 20))):
            for manner in MANNERS:
                self.run_deeds(shaded(wide, high, 4, seed), manner, seed, 100)

    def test_large_ones(self):
        for seed, picture in enumerate(LARGE):
            self.run_deeds(picture, MANNERS[seed % 2], seed, 40)

    def test_to_both_ends_and_other_deeds_between(self):
        for seed, manner in enumerate(MANNERS * 2):
            draw = random.Random(seed)
            picture = shaded(5, 6, 10, seed)
            desk, other = Desk(picture, manner=manner), plain.PlainDesk(picture, manner)
            for _ in range(60):
                self.both(desk, other, plain.drawn_deed(draw, desk.size()))
            for back, forth in ((200, 200), (7, 3), (1, 1), (9, 0)):
                for word, times in (("back", back), ("forth", forth)):
                    for _ in range(times):
                        if self.both(desk, other, (word,)) == "NoBack":
                            break
                self.both(desk, other, ("keep", 0, 0, 1, 1))
                self.both(desk, other, ("forth",))


class BeginTest(DeskTest):
    def test_all_cells_are_free(self):
        for picture in PICTURES:
            for manner in MANNERS:
                desk = Desk(picture, manner=manner)
                self.assertEqual(desk.picture(), picture)
                self.assertEqual(desk.marks(), ((0,) * len(picture[0]),) * len(picture))
                self.assertEqual(desk.size(), (len(picture[0]), len(picture)))
                self.assertEqual((desk.steps(), desk.log(), desk.counts(), len(desk)), ([], [], (0, 0), 0))

    def test_refused(self):
        for thing in NO_PICTURES.values():
            self.refused(NoPicture, Desk, thing)
            self.refused(NoPicture, Desk, thing, manner="none")
        for thing in THINGS:
            if thing not in MANNERS:
                self.refused(NoManner, Desk, SMALL, manner=thing)

    def test_manner_left_out_is_worth(self):
        self.assertTrue(Desk(SMALL) == Desk(SMALL, manner="worth"))
        self.assertFalse(Desk(SMALL) == Desk(SMALL, manner="joins"))

    def test_how_things_are_handed_in(self):
        def places(call):
            return [(name if one.kind is one.KEYWORD_ONLY else None, one.default)
                    for name, one in inspect.signature(call).parameters.items()]
        left_out = inspect.Parameter.empty
        self.assertEqual(places(Desk), [(None, left_out), ("manner", "worth")])
        desk = Desk(SMALL)
        for word in BOXES:
            self.assertEqual(places(getattr(desk, word)), [(None, left_out)] * 2 + [("wide", 1), ("high", 1)])
            with self.assertRaises(TypeError):
                getattr(desk, word)(0, 0, 1, 1)
        for word in "narrow flatten widen picture marks size steps log back forth counts twin".split():
            self.assertEqual(places(getattr(desk, word)), [])
        with self.assertRaises(TypeError):
            Desk(SMALL, "worth")


class BoxTest(DeskTest):
    def test_every_box_and_every_mark(self):
        for first in BOXES:
            for word in BOXES:
                for x in range(4):
                    for y in range(3):
                        for wide in range(1, 5 - x):
                            for high in range(1, 4 - y):
                                desk = Desk(WIDE)
                                box(desk, first, 1, 1, wide=2, high=2)
                                before = desk.marks()
                                inside = [(a, b) for b in range(y, y + high) for a in range(x, x + wide)]
                                told = box(desk, word, x, y, wide=wide, high=high)
                                self.assertEqual(told, sum(before[b][a] != MARK[word] for a, b in inside))
                                self.assertIs(type(told), int)
                                self.assertEqual(desk.marks(), tuple(
                                    tuple(MARK[word] if (a, b) in inside else before[b][a] for a in range(4))
                                    for b in range(3)))
                                self.assertEqual(desk.picture(), WIDE)

    def test_the_whole_picture_and_one_cell(self):
        for picture in PICTURES:
            wide, high = len(picture[0]), len(picture)
            for word in ("keep", "drop"):
                desk = Desk(picture)
                self.assertEqual(box(desk, word, 0, 0, wide=wide, high=high), wide * high)
                self.assertEqual(box(desk, word, 0, 0, wide=wide, high=high), 0)
                self.assertEqual(desk.free(wide - 1, high - 1), 1)
                self.assertEqual(desk.free(wide - 1, high - 1), 0)
                self.assertEqual(len(desk), 4)

    def test_left_out_they_are_1(self):
        desk = Desk(WIDE)
        self.assertEqual(desk.keep(1, 2), 1)
        self.assertEqual(desk.drop(3, 0, wide=1), 1)
        self.assertEqual(desk.free(1, 0, high=3), 1)
        self.assertEqual(desk.keep(0, 1, wide=2), 2)
        self.assertEqual(desk.log(), [("keep", 1, 2, 1, 1), ("drop", 3, 0, 1, 1), ("free", 1, 0, 1, 3),
                                      ("keep", 0, 1, 2, 1)])
        self.assertEqual(desk.marks(), ((0, 0, 0, 2), (1, 1, 0, 0), (0, 0, 0, 0)))

    def test_boxes_that_do_not_lie_in_the_picture(self):
        for picture in (WIDE, ((5,),), patterned(20, 1), patterned(1, 20), LARGE[0]):
            wide, high = len(picture[0]), len(picture)
            desk = Desk(picture)
            desk.keep(0, 0)
            for word in BOXES:
                for parts in ((-1, 0, 1, 1), (0, -1, 1, 1), (wide, 0, 1, 1), (0, high, 1, 1), (0, 0, wide + 1, 1),
                              (0, 0, 1, high + 1), (wide - 1, 0, 2, 1), (0, high - 1, 1, 2), (0, 0, 0, 1), (0, 0, 1, 0),
                              (0, 0, 0, 0), (0, 0, -1, 1), (0, 0, 1, -1), (wide, high, -1, -1), (-1, 0, 2, 1),
                              (0, -1, 1, 2), (wide, 0, 0, 1), (10 ** 30, 0, 1, 1), (0, 0, 1, 10 ** 30),
                              (-(10 ** 30), 0, 10 ** 30 + 1, 1), (wide - 1, high - 1, 2, 2)):
                    self.unchanged(desk, NoBox, getattr(desk, word), parts[0], parts[1], wide=parts[2], high=parts[3])

    def test_things_that_are_no_whole_numbers(self):
        desk = Desk(WIDE)
        desk.drop(0, 0)
        for word in BOXES:
            for thing in NO_PARTS:
                call = getattr(desk, word)
                self.unchanged(desk, NoBox, call, thing, 0)
                self.unchanged(desk, NoBox, call, 0, thing)
                self.unchanged(desk, NoBox, call, 0, 0, wide=thing)
                self.unchanged(desk, NoBox, call, 0, 0, high=thing)
                self.unchanged(desk, NoBox, call, thing, thing, wide=thing, high=thing)
                self.unchanged(desk, NoBox, call, 99, thing)

    def test_by_the_size_that_it_has_now(self):
        desk = Desk(WIDE)
        desk.narrow()
        desk.flatten()
        self.unchanged(desk, NoBox, desk.keep, 3, 0)
        self.unchanged(desk, NoBox, desk.keep, 0, 2)
        self.assertEqual(desk.keep(2, 1), 1)
        desk.widen()
        desk.widen()
        self.assertEqual(desk.keep(4, 0), 1)


class SeamDeedsTest(DeskTest):
    def test_narrow(self):
        for picture in TINY:
            for manner in MANNERS:
                desk = Desk(picture, manner=manner)
                while desk.size()[0] > 1:
                    before = desk.picture()
                    seam = desk.narrow()
                    self.assertEqual(seam, brute.best(before, manner))
                    self.assertEqual(desk.picture(), cut(before, seam))
                    self.assertEqual(desk.steps()[-1], ("narrow", seam, cells_of(before, seam)))
                self.assertEqual(self.unchanged(desk, NoRoom, desk.narrow).now, 1)

    def test_flatten(self):
        for picture in TINY:
            for manner in MANNERS:
                desk = Desk(picture, manner=manner)
                while desk.size()[1] > 1:
                    before = brute.turned(desk.picture())
                    seam = desk.flatten()
                    self.assertEqual(seam, brute.best(before, manner))
                    self.assertEqual(desk.picture(), brute.turned(cut(before, seam)))
                    self.assertEqual(desk.steps()[-1], ("flatten", seam, cells_of(before, seam)))
                self.assertEqual(self.unchanged(desk, NoRoom, desk.flatten).now, 1)

    def test_widen(self):
        for picture in TINY:
            for manner in MANNERS:
                desk = Desk(picture, manner=manner)
                while desk.size()[0] < 20:
                    before = desk.picture()
                    seam = desk.widen()
                    self.assertEqual(seam, least_seam(before, manner=manner))
                    self.assertEqual(desk.picture(), doubled(before, seam))
                    came = tuple(row[x + 1] for row, x in zip(desk.picture(), seam))
                    self.assertEqual(desk.steps()[-1], ("widen", seam, came))
                self.assertEqual(self.unchanged(desk, NoRoom, desk.widen).now, 20)

    def test_marks_lead_the_seams(self):
        desk = Desk(((5, 5, 5, 5), (5, 5, 5, 5)))
        desk.keep(0, 0)
        desk.drop(2, 1)
        self.assertEqual(desk.narrow(), (1, 2))
        self.assertEqual(desk.marks(), ((1, 0, 0), (0, 0, 0)))
        desk.drop(0, 1, wide=3)
        self.assertEqual(desk.flatten(), (1, 1, 1))
        self.assertEqual(desk.marks(), ((1, 0, 0),))
        self.assertEqual(desk.widen(), (1,))
        self.assertEqual(desk.marks(), ((1, 0, 0, 0),))

    def test_new_cells_are_free(self):
        for word in ("drop", "keep"):
            desk = Desk(((1, 9, 4), (2, 8, 6)))
            box(desk, word, 0, 0, wide=2, high=2)
            seam = desk.widen()
            row = [MARK[word], MARK[word], 0]
            rows = [row[:x + 1] + [0] + row[x + 1:] for x in seam]
            self.assertEqual(desk.marks(), tuple(tuple(one) for one in rows))

    def test_behind_the_last_one_it_is_that_itself(self):
        desk = Desk(((10, 20),))
        desk.keep(0, 0)
        self.assertEqual(desk.widen(), (1,))
        self.assertEqual(desk.picture(), ((10, 20, 20),))
        self.assertEqual(desk.marks(), ((1, 0, 0),))

    def test_no_way(self):
        for manner in MANNERS:
            desk = Desk(WIDE, manner=manner)
            desk.keep(0, 1, wide=4)
            self.unchanged(desk, NoWay, desk.narrow)
            self.unchanged(desk, NoWay, desk.widen)
            self.assertEqual(len(desk.flatten()), 4)
            desk = Desk(WIDE, manner=manner)
            desk.keep(2, 0, high=3)
            self.unchanged(desk, NoWay, desk.flatten)
            self.assertEqual(len(desk.narrow()), 3)
            self.assertEqual(len(desk.widen()), 3)

    def test_no_room_comes_ahead_of_no_way(self):
        for picture, call, now in ((((5,), (6,)), "narrow", 1), (((5, 6),), "flatten", 1), (((5,) * 20,), "widen", 20),
                                   (LARGE[0], "widen", 20), (((5,),), "narrow", 1), (((5,),), "flatten", 1)):
            desk = Desk(picture)
            desk.keep(0, 0, wide=len(picture[0]), high=len(picture))
            refusal = self.unchanged(desk, NoRoom, getattr(desk, call))
            self.assertEqual(refusal.now, now)
            self.assertIs(type(refusal.now), int)

    def test_one_wide_is_widened_and_one_high_narrowed(self):
        desk = Desk(((5,), (7,)))
        self.assertEqual(desk.widen(), (0, 0))
        self.assertEqual(desk.picture(), ((5, 5), (7, 7)))
        desk = Desk(((5, 7),))
        self.assertEqual(desk.narrow(), (0,))
        self.assertEqual(desk.picture(), ((7,),))

    def test_20_high_is_flattened(self):
        desk = Desk(patterned(1, 20))
        self.assertEqual(len(desk.flatten()), 1)
        self.assertEqual(desk.size(), (1, 19))


class BackAndForthTest(DeskTest):
    def test_none_at_first(self):
        desk = Desk(SMALL)
        self.unchanged(desk, NoBack, desk.back)
        self.unchanged(desk, NoBack, desk.forth)

    def test_all_is_as_it_was(self):
        for seed in range(8):
            draw = random.Random(seed)
            desk = Desk(shaded(6, 5, 20, seed), manner=MANNERS[seed % 2])
            stands = [plain.now(desk)]
            while len(stands) < 60:
                deed = plain.drawn_deed(draw, desk.size())
                if deed[0] not in ("back", "forth"):
                    try:
                        plain.do(desk, deed)
                    except errors.SeamError:
                        continue
                    stands.append(plain.now(desk))
            deeds = desk.log()
            for at in range(len(deeds) - 1, -1, -1):
                self.assertEqual(desk.back(), deeds[at])
                self.assertEqual(plain.now(desk), {**stands[at], "counts": (at, len(deeds) - at)})
            self.unchanged(desk, NoBack, desk.back)
            for at, deed in enumerate(deeds):
                self.assertEqual(desk.forth(), deed)
                self.assertEqual(plain.now(desk), {**stands[at + 1], "counts": (at + 1, len(deeds) - at - 1)})
            self.unchanged(desk, NoBack, desk.forth)

    def test_a_deed_between_ends_forth(self):
        for word in ("keep", "narrow", "widen", "flatten"):
            desk = Desk(WIDE)
            desk.narrow()
            desk.widen()
            desk.back()
            desk.back()
            self.assertEqual(desk.counts(), (0, 2))
            plain.do(desk, (word,) + ((0, 0, 1, 1) if word == "keep" else ()))
            self.assertEqual(desk.counts(), (1, 0))
            self.unchanged(desk, NoBack, desk.forth)
            self.assertEqual(desk.back()[0], word)
            self.assertEqual(desk.forth()[0], word)

    def test_a_deed_that_changes_no_mark_is_one_too(self):
        desk = Desk(SMALL)
        desk.keep(0, 0)
        desk.back()
        self.assertEqual(desk.free(0, 0), 0)
        self.assertEqual(desk.counts(), (1, 0))
        self.unchanged(desk, NoBack, desk.forth)
        self.assertEqual(desk.back(), ("free", 0, 0, 1, 1))

    def test_a_refused_deed_between_ends_nothing(self):
        desk = Desk(((5, 6), (7, 8)))
        desk.narrow()
        desk.keep(0, 0)
        desk.back()
        self.unchanged(desk, NoRoom, desk.narrow)
        self.unchanged(desk, NoBox, desk.keep, 1, 0)
        self.assertEqual(desk.counts(), (1, 1))
        self.assertEqual(desk.forth(), ("keep", 0, 0, 1, 1))
        desk.back()
        desk.back()
        desk.keep(0, 0, wide=2)
        self.unchanged(desk, NoWay, desk.narrow)

    def test_what_was_taken_back_last_comes_first(self):
        desk = Desk(WIDE)
        deeds = [("keep", 0, 0, 1, 1), ("narrow",), ("drop", 1, 1, 1, 1), ("widen",)]
        for deed in deeds:
            plain.do(desk, deed)
        self.assertEqual([desk.back(), desk.back(), desk.back()], deeds[:0:-1])
        self.assertEqual([desk.forth(), desk.forth()], deeds[1:3])
        self.assertEqual(desk.back(), deeds[2])
        self.assertEqual([desk.forth(), desk.forth()], deeds[2:])


class TwinTest(DeskTest):
    def test_as_it_is(self):
        for seed in range(6):
            desk = some_desk(seed)
            twin = desk.twin()
            self.assertIsNot(twin, desk)
            self.assertIs(type(twin), Desk)
            self.assertTrue(twin == desk)
            for word in ("back", "forth"):
                for _ in range(desk.counts()[word == "forth"]):
                    self.assertEqual(getattr(twin, word)(), getattr(desk, word)())
                    self.assertEqual(plain.now(twin), plain.now(desk))

    def test_each_goes_by_itself(self):
        for seed in range(6):
            draw = random.Random(seed)
            desks = [some_desk(seed)]
            desks.append(desks[0].twin())
            desks.append(desks[1].twin())
            for _ in range(60):
                at = draw.randrange(3)
                before = [plain.now(desk) for desk in desks]
                try:
                    plain.do(desks[at], plain.drawn_deed(draw, desks[at].size()))
                except errors.SeamError:
                    self.assertEqual(plain.now(desks[at]), before[at])
                for other in range(3):
                    if other != at:
                        self.assertEqual(plain.now(desks[other]), before[other])

    def test_what_one_can_do_again_stays_with_the_other(self):
        desk = Desk(WIDE)
        desk.narrow()
        desk.keep(0, 0)
        desk.back()
        desk.back()
        twin = desk.twin()
        desk.widen()
        self.assertEqual((desk.counts(), twin.counts()), ((1, 0), (0, 2)))
        self.assertEqual([twin.forth(), twin.forth()], [("narrow",), ("keep", 0, 0, 1, 1)])
        desk.back()
        self.assertEqual(desk.forth(), ("widen",))

    def test_manner_too(self):
        for manner in MANNERS:
            desk = Desk(shaded(9, 9, 100, 8), manner=manner)
            twin = desk.twin()
            self.assertEqual(twin.narrow(), least_seam(desk.picture(), manner=manner))
        seams = {least_seam(shaded(9, 9, 100, 8), manner=manner) for manner in MANNERS}
        self.assertEqual(len(seams), 2)


class EqualTest(DeskTest):
    def test_such_that_are_equal(self):
        for seed in range(6):
            one, other = some_desk(seed), some_desk(seed)
            self.assertIs(one == other, True)
            self.assertIs(one != other, False)
            self.assertIs(one == one, True)
            self.assertIs(one == replayed(WIDE, one.log()), True)

    def test_what_can_be_done_again_does_not_matter(self):
        one, other = Desk(WIDE), Desk(WIDE)
        one.narrow()
        one.back()
        self.assertIs(one == other, True)
        one.forth()
        self.assertIs(one == other, False)
        other.narrow()
        self.assertIs(one == other, True)

    def test_such_that_are_not(self):
        desks = [Desk(WIDE), Desk(WIDE, manner="joins"), Desk(SMALL), Desk(LARGE[0])]
        for deed in (("keep", 0, 0, 1, 1), ("drop", 0, 0, 1, 1), ("free", 0, 0, 1, 1), ("keep", 0, 0, 1, 2),
                     ("narrow",), ("flatten",)):
            desks += [replayed(WIDE, [deed]), replayed(WIDE, [deed], manner="joins"), replayed(WIDE, [deed] * 2)]
        for at, one in enumerate(desks):
            for place, other in enumerate(desks):
                self.assertIs(one == other, at == place)
                self.assertIs(one != other, at != place)

    def test_the_log_matters_not_what_it_came_to(self):
        one, other = Desk(WIDE), Desk(WIDE)
        one.keep(0, 0)
        one.free(0, 0)
        self.assertEqual((one.picture(), one.marks()), (other.picture(), other.marks()))
        self.assertIs(one == other, False)
        other.keep(0, 0, wide=1, high=1)
        other.free(0, 0)
        self.assertIs(one == other, True)

    def test_the_first_picture_matters(self):
        one, other = Desk(((5, 5, 7),)), Desk(((5, 5, 8),))
        self.assertIs(one == other, False)
        one.drop(2, 0)
        other.drop(2, 0)
        one.narrow()
        other.narrow()
        self.assertEqual(one.picture(), other.picture())
        self.assertEqual(one.log(), other.log())
        self.assertIs(one == other, False)

    def test_nothing_else(self):
        desk = Desk(SMALL)
        for thing in THINGS + [SMALL, desk.log(), desk.marks(), "3x2", (3, 2), object(), plain.PlainDesk(SMALL), 0]:
            self.assertIs(desk == thing, False, thing)
            self.assertIs(thing == desk, False, thing)
            self.assertIs(desk != thing, True, thing)


class LenAndStrTest(DeskTest):
    def test_len_is_how_many_deeds_the_log_has(self):
        desk = Desk(WIDE)
        self.assertEqual(len(desk), 0)
        for many in range(1, 200):
            desk.keep(many % 4, many % 3)
            self.assertEqual(len(desk), many)
        desk.back()
        self.assertEqual(len(desk), 198)
        desk.forth()
        self.assertEqual(len(desk), 199)

    def test_str(self):
        self.assertEqual(str(Desk(patterned(7, 5))), "7x5")
        self.assertEqual(str(Desk(((0,),))), "1x1")
        self.assertEqual(str(Desk(LARGE[0])), "20x20")
        self.assertEqual(str(Desk(patterned(1, 20))), "1x20")
        desk = Desk(WIDE)
        desk.widen()
        self.assertEqual(str(desk), "5x3")
        desk.flatten()
        self.assertEqual(str(desk), "5x2")
        desk.back()
        self.assertEqual(f"{desk}", "5x3")


class ToldTest(DeskTest):
    def test_told_lists_are_new_ones(self):
        for seed in range(6):
            desk = some_desk(seed)
            before = plain.now(desk)
            for word in ("steps", "log"):
                told = getattr(desk, word)()
                self.assertIs(type(told), list)
                self.assertIsNot(told, getattr(desk, word)())
                told.append("other")
                told.reverse()
                del told[:1]
                self.assertEqual(plain.now(desk), before)
                told.clear()
                self.assertEqual(plain.now(desk), before)
                self.assertTrue(desk == some_desk(seed))

    def test_kinds(self):
        def check(thing):
            self.assertIn(type(thing), (tuple, int, str))
            for part in thing if isinstance(thing, tuple) else ():
                check(part)
        for seed in range(6):
            desk = some_desk(seed)
            for told in [desk.picture(), desk.marks(), desk.size(), desk.counts()] + desk.steps() + desk.log():
                self.assertIs(type(told), tuple)
                check(told)

    def test_desks_share_nothing(self):
        one, other = Desk(WIDE), Desk(WIDE)
        before = plain.now(other)
        one.keep(0, 0)
        one.narrow()
        one.back()
        self.assertEqual(plain.now(other), before)
        self.assertEqual(plain.now(Desk(WIDE)), before)

    def test_what_is_told_stays_as_it_was_told(self):
        desk = some_desk(1)
        told = plain.now(desk)
        kept = copy.deepcopy(told)
        for _ in range(5):
            desk.keep(0, 0)
            desk.back()
        desk.free(0, 0, wide=desk.size()[0], high=desk.size()[1])
        desk.widen()
        self.assertEqual(told, kept)


if __name__ == "__main__":
    unittest.main()
