"""Over the whole program: what is asked again is told as before, whatever was done or refused between."""

import copy
import random
import unittest

import plain
from samples import LARGE, MANNERS, NO_PICTURES, THINGS, TINY, shaded
from seamhall import errors, pictures, worths
from seamhall.desks import Desk
from seamhall.logs import fitted, origin_of, replayed
from test_refusals import CALLS, PICTURE, PLACES, asked, right_for, words


def frozen(told):
    """What was told, so that nothing can change it any more."""
    return plain.now(told) if isinstance(told, Desk) else copy.deepcopy(told)


def all_asks():
    """Every function with right things, as calls by themselves; and desks over several pictures."""
    for function, text, order in CALLS:
        yield lambda function=function, text=text: asked(function, text, right_for(function, text))
    for name in ("is_picture", "size_of", "turned", "mirrored", "counted", "brightness"):
        yield lambda name=name: getattr(pictures, name)(PICTURE)
    yield lambda: worths.worths(PICTURE)
    for picture in TINY[::5] + [shaded(8, 8, 50, 1)]:
        for manner in MANNERS:
            yield lambda picture=picture, manner=manner: fitted(picture, 3, 2, manner=manner)
            yield lambda picture=picture, manner=manner: origin_of(fitted(picture, 3, 2, manner=manner))
            yield lambda picture=picture, manner=manner: replayed(picture, [("drop", 0, 0, 1, 1), ("widen",)],
                                                                  manner=manner)


ASKS = list(all_asks())


def spoil(told):
    """Change what was told, as whoever gets it may."""
    if isinstance(told, list):
        told.append("other")
        told.reverse()
        told.pop()
        told.clear()
    if isinstance(told, Desk):
        told.keep(0, 0)
        told.back()
        told.widen()


def ask_wrongly(draw):
    """One call with a wrong thing at one of its places."""
    function, text, order = draw.choice(CALLS)
    place = draw.choice(words(order))
    try:
        asked(function, text, {**right_for(function, text), place: draw.choice(PLACES[place][1])})
    except errors.SeamError:
        return
    raise AssertionError((function.__name__, place))


def work_on_a_desk(draw):
    desk = Desk(shaded(draw.randrange(1, 8), draw.randrange(1, 8), 50, draw.randrange(9)), manner=draw.choice(MANNERS))
    for _ in range(20):
        try:
            plain.do(desk, plain.drawn_deed(draw, desk.size()))
        except errors.SeamError:
            pass


class AgainTest(unittest.TestCase):
    def test_told_as_before(self):
        first = [frozen(ask()) for ask in ASKS]
        for seed in range(6):
            draw = random.Random(seed)
            order = list(range(len(ASKS)))
            draw.shuffle(order)
            for at in order:
                told = ASKS[at]()
                self.assertEqual(frozen(told), first[at])
                spoil(told)
                ask_wrongly(draw)
                work_on_a_desk(draw)
                self.assertEqual(frozen(ASKS[at]()), first[at])

    def test_a_desk_left_alone_stays_as_it_is(self):
        desks = [replayed(picture, [("narrow",), ("keep", 0, 0, 1, 1)]) for picture in TINY if len(picture[0]) > 1]
        before = [plain.now(desk) for desk in desks]
        draw = random.Random(1)
        for ask in ASKS:
            spoil(ask())
            ask_wrongly(draw)
            work_on_a_desk(draw)
        self.assertEqual([plain.now(desk) for desk in desks], before)
        for desk in desks:
            self.assertEqual([desk.back(), desk.back()], [("keep", 0, 0, 1, 1), ("narrow",)])

    def test_what_is_asked_of_a_desk_changes_nothing(self):
        for picture in TINY + LARGE[:2]:
            desk = fitted(picture, 2, 2)
            twin = desk.twin()
            for _ in range(3):
                before = plain.now(desk)
                origin_of(desk)
                desk.twin().widen()
                for thing in THINGS:
                    self.assertFalse(desk == thing)
                for thing in list(NO_PICTURES.values())[::9]:
                    with self.assertRaises(errors.NoPicture):
                        Desk(thing)
                self.assertEqual(plain.now(desk), before)
            self.assertTrue(desk == twin)


if __name__ == "__main__":
    unittest.main()
