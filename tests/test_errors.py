"""The interface, errors.py; [0.3] on how refusals stand."""

import copy
import unittest

from seamhall import errors

REFUSALS = ["NoPicture", "NoMarks", "NoSeam", "NoCells", "NoManner", "NoWidth", "NoNumber", "NoTable", "NoPictures",
            "NoWay", "NoBox", "NoRoom", "NoBack", "NoDeeds", "NoText"]


def made(name):
    """A refusal of this name."""
    kind = getattr(errors, name)
    return kind(1) if name == "NoRoom" else kind("why")


class RefusalsTest(unittest.TestCase):
    def test_seam_error_is_a_value_error(self):
        self.assertTrue(issubclass(errors.SeamError, ValueError))

    def test_each_stands_under_seam_error(self):
        for name in REFUSALS:
            with self.subTest(name):
                self.assertTrue(issubclass(getattr(errors, name), errors.SeamError))
                self.assertIsNot(getattr(errors, name), errors.SeamError)
                self.assertEqual(getattr(errors, name).__name__, name)

    def test_none_stands_under_another(self):
        for name in REFUSALS:
            for other in REFUSALS:
                if other != name:
                    with self.subTest(name, other=other):
                        self.assertFalse(issubclass(getattr(errors, name), getattr(errors, other)))

    def test_each_is_raised_and_taken_by_its_name(self):
        for name in REFUSALS:
            for taken in (getattr(errors, name), errors.SeamError, ValueError):
                with self.subTest(name, taken=taken):
                    with self.assertRaises(taken):
                        raise made(name)


class NoRoomTest(unittest.TestCase):
    def test_now_is_what_it_was_made_with(self):
        for now in (1, 20):
            self.assertEqual(errors.NoRoom(now).now, now)
            self.assertIs(type(errors.NoRoom(now).now), int)

    def test_now_is_there_when_taken(self):
        with self.assertRaises(errors.SeamError) as taken:
            raise errors.NoRoom(20)
        self.assertEqual(taken.exception.now, 20)

    def test_each_has_its_own(self):
        first, second = errors.NoRoom(1), errors.NoRoom(20)
        self.assertEqual((first.now, second.now), (1, 20))
        self.assertEqual(copy.copy(first).now, 1)

    def test_none_is_made_without_now(self):
        with self.assertRaises(TypeError):
            errors.NoRoom()


if __name__ == "__main__":
    unittest.main()
