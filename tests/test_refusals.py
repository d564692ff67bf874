"""[0.3]: what each function refuses, by which class and in which order; what is handed in and told is no one else's."""

import copy
import inspect
import itertools
import unittest

from samples import NO_PICTURES, THINGS
from seamhall import errors, flows, ladders, logs, ranks, seams, shrinking, texts
from seamhall.desks import Desk

PICTURE = ((5, 9, 2), (40, 7, 60), (8, 8, 1), (0, 99, 30))
OTHER = ((1, 0, 2), (3, 7, 6), (8, 4, 1), (0, 9, 3))
SEAM = (0, 1, 1, 2)
WIDER_SEAM = (3, 3, 2, 1)
CELLS = (0, 99, 5, 6)
MARKS = ((0, 0, 2), (0, 0, 1), (0, 0, 0), (2, 0, 0))
TABLE = ((0, 1, 2), (1, 0, 2), (1, 0, 2), (1, 2, 0))
STEPS = [((0, 0, 1, 1), (5, 6, 7, 8)), (WIDER_SEAM, CELLS)]
DEEDS = [("keep", 0, 0, 1, 2), ("narrow",), ("flatten",), ("drop", 0, 1, 1, 1), ("widen",)]

NO_MANNERS = [thing for thing in THINGS if thing not in ("worth", "joins")]
NO_MANNERS += ["WORTH", "join", "worth\n", " joins", ("worth", "joins"), ["joins"]]

NO_SEAMS = THINGS + [
    list(SEAM), SEAM[:3], SEAM + (2,), (0, 2, 1, 1), (0, 0, 0, 2), (0, 0, 0, -1), (-1, 0, 0, 0), (3, 3, 3, 4),
    (4, 4, 4, 4), (0, 0, 0, None), (0, 0, 0, "0"), (0, 0, 0, False), (True, 1, 1, 1), ((0,), 0, 0, 0), ([0], 0, 0, 0),
    "0112", (SEAM,), [SEAM], (10 ** 30,) * 4,
]

NO_CELLS = THINGS + [
    list(CELLS), CELLS[:3], CELLS + (1,), (0, 100, 5, 6), (0, -1, 5, 6), (True, 0, 0, 0), (0, 0, 0, False),
    (None, 0, 0, 0), ("0", 0, 0, 0), ((0,), 0, 0, 0), ([0], 0, 0, 0), "0123", (CELLS,), [CELLS],
]

NO_MARKS = [thing for thing in THINGS if thing is not None] + [
    [list(row) for row in MARKS], list(MARKS), tuple(list(row) for row in MARKS), MARKS[:3], MARKS + ((0, 0, 0),),
    tuple(row[:2] for row in MARKS), tuple(row + (0,) for row in MARKS), MARKS[:3] + ((0, 0),), MARKS[:3] + ((0,) * 4,),
    MARKS[:3] + ((0, 0, 3),), MARKS[:3] + ((-1, 0, 0),), MARKS[:3] + ((True, 0, 0),), MARKS[:3] + ((0, False, 0),),
    MARKS[:3] + ((0, None, 0),), MARKS[:3] + ((0, "k", 0),), MARKS[:3] + (None,), MARKS[:3] + ("...",),
    MARKS[:3] + ([0, 0, 0],), (None,) * 4, ((None,) * 3,) * 4, "...\n" * 4, (), ((),) * 4, ((0,) * 4,) * 3,
]

NO_TABLES = THINGS + [
    list(TABLE), tuple(list(row) for row in TABLE), TABLE[:3], TABLE + ((0, 1, 2),), TABLE[:3] + ((0, 1, 3),),
    TABLE[:3] + ((0, 1, 1),), TABLE[:3] + ((0, 1),), TABLE[:3] + ((0, 1, 2, 3),), TABLE[:3] + ((False, True, 2),),
    TABLE[:3] + (("0", "1", "2"),), TABLE[:3] + (None,), TABLE[:3] + ("012",), TABLE[:3] + ((None, 0, 1),),
    TABLE[:3] + ([0, 1, 2],), TABLE[:2] + ((2, 1, 0), (0, 1, 2)), (TABLE,), ((0, 1, 2), (1, 2, 0)) * 2,
]

NO_STEPS = [thing for thing in THINGS if thing != []] + [
    tuple(STEPS), [list(step) for step in STEPS], STEPS[::-1] + [None], [STEPS[0], STEPS], [STEPS], STEPS + [()],
    STEPS + [(WIDER_SEAM,)], STEPS + [(WIDER_SEAM, CELLS, 1)], [(list(WIDER_SEAM), CELLS)], [(WIDER_SEAM, list(CELLS))],
    [((4,) * 4, CELLS)], [(CELLS, WIDER_SEAM)], [((0, 0, 0, True), CELLS)], [(SEAM, (0, 0, 0, True))], STEPS * 10,
    [(SEAM, CELLS)] * 18, [None] * 17,
]

NO_DEEDS = [thing for thing in THINGS if thing != []] + [
    tuple(DEEDS), DEEDS + [None], [DEEDS], DEEDS + [()], DEEDS + [("narrow", 1)], DEEDS + [["narrow"]],
    DEEDS + ["narrow"], DEEDS + [("keep", 0, 0, 1)], DEEDS + [("keep", 0, 0, 1, True)], DEEDS + [("keep", 0, -1, 1, 1)],
    DEEDS + [("keep", 0, 0, 21, 1)], [("keep", 0, 0, 1, [1])], [(["keep"], 0, 0, 1, 1)], [("back",)], "narrow\n",
]

NO_TEXTS = [thing for thing in THINGS if thing not in ("", "1 2 3\n")] + [
    "1 2 3", "01 2\n", "k.\nk\n", "1 2\n3\n", "narrow", "keep 0 0 1\n", "\n", ["1 2\n"], ("narrow\n",), SEAM, DEEDS,
]

NO_PICTURE_LISTS = [thing for thing in THINGS if thing not in ([((1, 2, 3), (40, 50, 60))], [((0,), (0,))])]
NO_PICTURE_LISTS += [PICTURE, (PICTURE,), (PICTURE, OTHER), [PICTURE, None], [None, PICTURE], [PICTURE, PICTURE[:3]],
                     [PICTURE, tuple(row[:2] for row in PICTURE)], [PICTURE, tuple(zip(*PICTURE))], [[PICTURE]],
                     [PICTURE, [PICTURE]], [PICTURE, list(PICTURE)], [tuple(list(row) for row in PICTURE)],
                     [PICTURE, OTHER, OTHER[:3] + ((0, 1, True),)], [PICTURE, ((0,) * 21,)]]
NO_PICTURE_LISTS += [[thing] for thing in NO_PICTURES.values()] + [[PICTURE, thing] for thing in NO_PICTURES.values()]


def things_but(right):
    """Things of all kinds, but the whole numbers that are right."""
    return [thing for thing in THINGS if type(thing) is not int or thing not in right]


def is_some_marks(thing):
    """Whether things of the list above, no marks of its picture, are marks of another one."""
    return thing in (((0,),), MARKS[:3], MARKS + ((0, 0, 0),), tuple(row[:2] for row in MARKS),
                     tuple(row + (0,) for row in MARKS), ((0,) * 4,) * 3)


def texts_but(right):
    return [thing for thing in THINGS if not isinstance(thing, str) or thing not in right]


NO_WIDTHS = things_but(range(1, 4)) + ["3", 2 ** 64, (3,), [2]]

PLACES = {
    "picture": (PICTURE, list(NO_PICTURES.values()), errors.NoPicture),
    "pictures": ([PICTURE, OTHER], NO_PICTURE_LISTS, errors.NoPictures),
    "manner": ("joins", NO_MANNERS, errors.NoManner),
    "marks": (MARKS, NO_MARKS, errors.NoMarks),
    "seam": (SEAM, NO_SEAMS + [WIDER_SEAM], errors.NoSeam),
    "wider seam": (WIDER_SEAM, NO_SEAMS, errors.NoSeam),
    "cells": (CELLS, NO_CELLS, errors.NoCells),
    "wide": (2, NO_WIDTHS, errors.NoWidth),
    "wider": (5, things_but(range(3, 7)) + ["3", 7], errors.NoWidth),
    "down": (2, things_but(range(0, 4)), errors.NoWidth),
    "across": (1, things_but(range(0, 3)), errors.NoWidth),
    "number": (7, things_but(range(0, 43)), errors.NoNumber),
    "many": (5, things_but(range(1, 61)), errors.NoNumber),
    "table": (TABLE, NO_TABLES, errors.NoTable),
    "steps": (STEPS, NO_STEPS, errors.NoDeeds),
    "few": (3, things_but(range(1, 7)) + [7, "1", (1,)], errors.NoNumber),
    "deeds": (DEEDS, NO_DEEDS, errors.NoDeeds),
    "any wide": (2, [], None),
    "any high": (3, [], None),
    "some marks": (MARKS, [None] + [thing for thing in NO_MARKS if not is_some_marks(thing)], errors.NoMarks),
    "picture text": ("5 9\n40 7\n", NO_TEXTS + [""], errors.NoText),
    "marks text": (".k\nd.\n", NO_TEXTS + ["", "1 2 3\n"], errors.NoText),
    "log text": ("narrow\nkeep 0 0 1 1\n", NO_TEXTS + ["1 2 3\n"], errors.NoText),
    "text": ("crr", texts_but(("", "c", "r", "cr")) + ["ccc", "rrrr", "crx"], errors.NoDeeds),
}

# Each function, its places in the order in which they are handed in, and those places in the order of refusals.
CALLS = [
    (seams.is_seam, "thing picture", "picture"),
    (seams.cost_of, "picture seam manner", "picture manner seam"),
    (seams.least_seam, "picture manner marks", "picture manner marks"),
    (seams.common_seam, "pictures manner", "pictures manner"),
    (seams.paper, "picture manner marks", "picture manner marks"),
    (seams.many_least, "picture manner marks", "picture manner marks"),
    (seams.cells_of, "picture seam", "picture seam"),
    (seams.cut, "picture seam", "picture seam"),
    (seams.put_back, "picture wider_seam cells", "picture wider_seam cells"),
    (seams.doubled, "picture seam", "picture seam"),
    (ranks.how_many, "picture marks", "picture marks"),
    (ranks.seam_at, "picture number marks", "picture marks number"),
    (ranks.number_of, "picture seam marks", "picture marks seam"),
    (ranks.best_seams, "picture many manner marks", "picture manner marks many"),
    (ranks.is_least, "picture seam manner marks", "picture manner marks seam"),
    (shrinking.narrowed, "picture wide manner marks", "picture manner marks wide"),
    (shrinking.history, "picture wide manner marks", "picture manner marks wide"),
    (shrinking.rebuilt, "picture steps", "picture steps"),
    (shrinking.loss, "picture wide manner", "picture manner wide"),
    (shrinking.cleared, "picture marks! manner", "picture manner marks"),
    (shrinking.by_order, "picture text manner", "picture manner text"),
    (shrinking.best_order, "picture down across manner", "picture manner down across"),
    (ladders.is_orders, "thing picture", "picture"),
    (ladders.orders, "picture manner", "picture manner"),
    (ladders.seams_of, "picture table", "picture table"),
    (ladders.at_width, "picture table wide", "picture table wide"),
    (ladders.widened, "picture table wider", "picture table wider"),
    (flows.together, "picture few", "picture few"),
    (flows.prices, "picture few", "picture few"),
    (Desk, "picture manner", "picture manner"),
    (logs.replayed, "picture deeds manner", "picture manner deeds"),
    (logs.fitted, "picture any_wide any_high manner", "picture manner"),
    (texts.picture_text, "picture", "picture"),
    (texts.read_picture, "picture_text", "picture_text"),
    (texts.marks_text, "some_marks", "some_marks"),
    (texts.read_marks, "marks_text", "marks_text"),
    (texts.log_text, "deeds", "deeds"),
    (texts.read_log, "log_text", "log_text"),
]

LEFT_OUT = {"manner": "worth", "marks": None}


def words(text):
    return [word.replace("_", " ") for word in text.replace("!", "").split()]


def right_for(function, text):
    """Right things for all places of a function."""
    things = {place: PLACES[place][0] for place in words(text) if place != "thing"}
    if "thing" in words(text):
        things["thing"] = SEAM if function is seams.is_seam else TABLE
    return things


def by_name_alone(text):
    """The places that are handed in by name; marks! may not be left out, and is handed in by its place."""
    return [word for word in text.split() if word in LEFT_OUT]


def asked(function, text, things):
    """What the function tells of things for its places."""
    named = by_name_alone(text)
    return function(*[things[place] for place in words(text) if place not in named],
                    **{place: things[place] for place in named})


class RefusedTest(unittest.TestCase):
    def check(self, function, text, things, error, why):
        before = repr(things)
        try:
            told = asked(function, text, things)
        except errors.SeamError as refusal:
            self.assertIs(type(refusal), error, why)
        else:
            self.fail(f"{function.__name__} told {told} of {why}")
        self.assertEqual(repr(things), before)

    def test_right_things_are_not_refused(self):
        for function, text, order in CALLS:
            things = right_for(function, text)
            before = copy.deepcopy(things)
            told = asked(function, text, things)
            self.assertIsNotNone(told, function.__name__)
            self.assertEqual(repr(things), repr(before))
            self.assertEqual(asked(function, text, before), told)

    def test_each_place_by_its_class(self):
        for function, text, order in CALLS:
            for place in words(order):
                right, wrong, error = PLACES[place]
                for thing in wrong:
                    with self.subTest(function.__name__, place=place, thing=thing):
                        self.check(function, text, {**right_for(function, text), place: thing}, error, (place, thing))

    def test_of_several_the_first_told(self):
        for function, text, order in CALLS:
            for first, second in itertools.combinations(words(order), 2):
                for one, other in itertools.product(PLACES[first][1][::9], PLACES[second][1][::9]):
                    things = {**right_for(function, text), first: one, second: other}
                    self.check(function, text, things, PLACES[first][2], (function.__name__, first, one, second, other))

    def test_of_all_the_first_told(self):
        for function, text, order in CALLS:
            places = words(order)
            for at in range(len(places)):
                things = {**right_for(function, text), **{place: PLACES[place][1][3] for place in places[at:]}}
                self.check(function, text, things, PLACES[places[at]][2], (function.__name__, places[at:]))

    def test_a_refusal_comes_ahead_of_none(self):
        slim, broad = ((5,), (6,)), ((5,) * 20,) * 2
        wall = ((1,) * 20, (0,) * 20)
        for function, things, named, error in (
                (seams.cut, (slim, (0,)), {}, errors.NoSeam),
                (seams.cut, (slim, (0, 1)), {}, errors.NoSeam),
                (seams.doubled, (broad, (20, 20)), {}, errors.NoSeam),
                (seams.put_back, (broad, (21, 21), (5, 5)), {}, errors.NoSeam),
                (seams.put_back, (broad, (20, 20), (5, 100)), {}, errors.NoCells),
                (ranks.number_of, (broad, (0, 2)), {"marks": wall}, errors.NoSeam),
                (ranks.is_least, (broad, (0, 2)), {"marks": wall}, errors.NoSeam),
                (ranks.seam_at, (broad, 0), {"marks": wall}, errors.NoNumber),
                (ranks.best_seams, (broad, 61), {"marks": wall}, errors.NoNumber),
                (shrinking.narrowed, (broad, 21), {"marks": wall}, errors.NoWidth),
                (shrinking.history, (broad, 0), {"marks": wall}, errors.NoWidth),
                (flows.together, (slim, 7), {}, errors.NoNumber),
                (flows.prices, (slim, True), {}, errors.NoNumber)):
            with self.assertRaises(error):
                function(*things, **named)


class AskedTest(unittest.TestCase):
    def test_what_begins_with_is_takes_any_thing(self):
        for thing in NO_SEAMS + list(NO_PICTURES.values()) + NO_TABLES:
            self.assertIs(seams.is_seam(thing, PICTURE), False, thing)
        for thing in NO_TABLES + list(NO_PICTURES.values()) + NO_SEAMS + [MARKS]:
            self.assertIs(ladders.is_orders(thing, PICTURE), False, thing)
        self.assertIs(seams.is_seam(SEAM, PICTURE), True)
        self.assertIs(ladders.is_orders(TABLE, PICTURE), True)

    def test_what_is_asked_is_as_it_was(self):
        for thing in NO_SEAMS + NO_TABLES:
            before = repr(thing)
            seams.is_seam(thing, PICTURE)
            ladders.is_orders(thing, PICTURE)
            self.assertEqual(repr(thing), before)


class ToldTest(unittest.TestCase):
    def test_told_lists_are_new_ones(self):
        for function, text, order in CALLS:
            things = right_for(function, text)
            first = asked(function, text, things)
            if not isinstance(first, list):
                continue
            kept = copy.deepcopy(first)
            second = asked(function, text, things)
            self.assertIsNot(first, second)
            first.clear()
            first.append("other")
            self.assertEqual(second, kept, function.__name__)
            self.assertEqual(asked(function, text, things), kept, function.__name__)

    def test_these_tell_lists_and_the_others_none(self):
        told = {function.__name__ for function, text, order in CALLS
                if isinstance(asked(function, text, right_for(function, text)), list)}
        self.assertEqual(told, {"best_seams", "history", "cleared", "seams_of", "together", "read_log"})

    def test_what_is_told_within_is_tuples(self):
        def check(thing):
            self.assertIn(type(thing), (tuple, int, str, bool, type(None), Desk))
            for part in thing if isinstance(thing, tuple) else ():
                check(part)
        for function, text, order in CALLS:
            told = asked(function, text, right_for(function, text))
            for part in told if isinstance(told, list) else [told]:
                check(part)

    def test_lists_handed_in_are_not_kept(self):
        pictures = [PICTURE, OTHER]
        told = seams.common_seam(pictures)
        pictures.clear()
        self.assertEqual(told, seams.common_seam([PICTURE, OTHER]))
        steps = list(STEPS)
        told = shrinking.rebuilt(PICTURE, steps)
        steps.clear()
        self.assertEqual(told, shrinking.rebuilt(PICTURE, STEPS))
        self.assertEqual(shrinking.rebuilt(PICTURE, steps), PICTURE)


class InterfaceTest(unittest.TestCase):
    def test_how_things_are_handed_in(self):
        for function, text, order in CALLS:
            named = by_name_alone(text)
            parameters = inspect.signature(function).parameters
            kinds = [(one.kind is one.KEYWORD_ONLY, one.default) for one in parameters.values()]
            self.assertEqual(kinds, [(place in named, LEFT_OUT[place] if place in named else inspect.Parameter.empty)
                                     for place in words(text)], function.__name__)
            self.assertEqual([name for name in parameters if name in LEFT_OUT][-len(named):] if named else [], named)

    def test_manner_and_marks_by_their_names_alone(self):
        for function, text, order in CALLS:
            things = right_for(function, text)
            if by_name_alone(text):
                with self.assertRaises(TypeError):
                    function(*[things[place] for place in words(text)])

    def test_left_out(self):
        for function, text, order in CALLS:
            for place in by_name_alone(text):
                things = {**right_for(function, text), place: LEFT_OUT[place]}
                rest = [one for one in by_name_alone(text) if one != place]
                told = function(*[things[one] for one in words(text) if one not in by_name_alone(text)],
                                **{one: things[one] for one in rest})
                self.assertEqual(told, asked(function, text, things), (function.__name__, place))


if __name__ == "__main__":
    unittest.main()
