"""Stage 11: texts; [0.2] (i), and [0.3] of these."""

import re
import unittest

import plain
from samples import LARGE, NO_PICTURES, PICTURES, SMALL, THINGS, TINY, all_marks, deep, patterned, shaded
from seamhall import errors
from seamhall.errors import NoDeeds, NoMarks, NoPicture, NoText
from seamhall.logs import fitted, replayed
from seamhall.texts import log_text, marks_text, picture_text, read_log, read_marks, read_picture

DEEDS = [("keep", 0, 2, 3, 1), ("narrow",), ("drop", 20, 19, 10, 9), ("widen",), ("flatten",), ("free", 0, 0, 0, 0)]
LOGS = [[], DEEDS, [("narrow",)], [("keep", 1, 2, 3, 4)], [("free", 20, 20, 20, 20)] * 2, DEEDS[::-1],
        [("flatten",), ("flatten",)], [("drop", 0, 10, 1, 11)]]
MARKS = [marks for wide, high in ((1, 1), (1, 3), (3, 1), (2, 2), (4, 3), (20, 20), (20, 1), (1, 20))
         for marks in all_marks(wide, high)]

# What is no text at all.
NO_TEXTS = [thing for thing in THINGS if not isinstance(thing, str)]
NO_TEXTS += [SMALL, DEEDS, b"1 2\n", b"", b"narrow\n", ["1 2\n"], ("1 2\n",), ["narrow\n"], ("...\n",), [["narrow"]],
             deep("1\n", 6, list), deep("narrow\n", 6, tuple), 1, 0, True, None]

# Figures, blanks and ends of lines that are none here, though Python's own methods take many of them as such.
SIGNS = list(" \n\t\r0123456789.kd+-_,;:xKDnarowe\"'") + [
    "\x00", "\x0b", "\x0c", "\x1c", "\x1d", "\x1e", "\x1f", "\x85", "\xa0", "\u00b2", "\u0661", "\u06f3", "\u0966",
    "\u0e51", "\u2002", "\u2003", "\u2009", "\u200b", "\u2028", "\u2029", "\u2080", "\u2160", "\u2460", "\u3000",
    "\u3007", "\u4e00", "\ufeff", "\uff10", "\uff11", "\uff19", "\uff0e", "\uff4b", "\uff44", "\u212a", "\u0399",
    "\U0001d7ce", "\U0001d7d9", "\ud800"]

NUMBER = "(0|[1-9][0-9]?)"
PICTURE_FORM = re.compile("(" + NUMBER + "( " + NUMBER + "){0,19}\n){1,20}")
MARKS_FORM = re.compile("([.kd]{1,20}\n){1,20}")
LOG_FORM = re.compile("((keep|drop|free)( (1?[0-9]|20)){4}\n|(narrow|flatten|widen)\n)*")


def is_writing(form, text):
    """Whether the tests' own form fits the whole text, and, but for logs, all lines are of as many parts."""
    if form.fullmatch(text) is None:
        return False
    lines = text.split("\n")[:-1]
    if form is PICTURE_FORM:
        return len({line.count(" ") for line in lines}) == 1
    return form is LOG_FORM or len({len(line) for line in lines}) == 1


def nearly(text):
    """Texts that differ from this one by little."""
    for at in range(len(text) + 1):
        yield text[:at] + text[at + 1:]
        yield text[:at]
        for sign in SIGNS:
            yield text[:at] + sign + text[at:]
            yield text[:at] + sign + text[at + 1:]
    lines = text.split("\n")[:-1]
    for at, line in enumerate(lines):
        for others in ([line, line], [], [line, ""], ["", line], [line + " "], [" " + line], [line.replace(" ", "  ")],
                       [line.replace(" ", "\t")], [line + line], [line.upper()], [line.swapcase()], [line[::-1]],
                       [line.replace(" ", "\n")], [line + " " + line], [line + "\r"]):
            yield "".join(one + "\n" for one in lines[:at] + others + lines[at + 1:])
    yield text + text
    yield text * 21
    yield text.replace("\n", "\r\n")
    yield text.replace("\n", "\r")
    yield text.replace("\n", "")
    yield text.replace("\n", "\u2028")
    yield text.replace(" ", "\u00a0")
    yield re.sub("([0-9]+)", r"0\1", text)
    yield re.sub("([0-9]+)", r"+\1", text)
    yield re.sub("([0-9]+)", r"-\1", text)
    yield re.sub("([0-9]+)", r"\1.0", text)
    yield re.sub("([0-9])", lambda found: "\u0660\u0661\u0662\u0663\u0664\u0665\u0666\u0667\u0668\u0669"[int(found[0])],
                 text)
    yield re.sub("([0-9])", lambda found: "\uff10\uff11\uff12\uff13\uff14\uff15\uff16\uff17\uff18\uff19"[int(found[0])],
                 text)


class TextsTest(unittest.TestCase):
    def refused(self, error, call, thing):
        before = repr(thing)
        with self.assertRaises(errors.SeamError) as taken:
            call(thing)
        self.assertIs(type(taken.exception), error, repr(thing))
        self.assertEqual(repr(thing), before)

    def check_near(self, texts, write, read, form):
        """What is read is written as that very text; what is a writing by the tests' own form is read, and no other."""
        read_ones = 0
        for text in texts:
            for other in nearly(text):
                if is_writing(form, other):
                    self.assertEqual(write(read(other)), other, repr(other))
                    read_ones += 1
                else:
                    self.refused(NoText, read, other)
        self.assertGreater(read_ones, 100)


class PictureTextTest(TextsTest):
    def test_written(self):
        self.assertEqual(picture_text(SMALL), "1 2 3\n40 50 60\n")
        self.assertEqual(picture_text(((0,),)), "0\n")
        self.assertEqual(picture_text(((0,), (99,))), "0\n99\n")
        self.assertEqual(picture_text(((10, 9),)), "10 9\n")

    def test_read(self):
        self.assertEqual(read_picture("1 2 3\n40 50 60\n"), SMALL)
        self.assertEqual(read_picture("0\n"), ((0,),))
        told = read_picture("1 20\n3 0\n")
        self.assertEqual([type(told)] + [type(row) for row in told], [tuple] * 3)
        self.assertEqual({type(cell) for row in told for cell in row}, {int})

    def test_read_back_as_it_was(self):
        for picture in PICTURES + TINY + LARGE + [tuple((cell,) for cell in range(at, at + 20)) for at in range(0, 81)]:
            text = picture_text(picture)
            self.assertTrue(is_writing(PICTURE_FORM, text))
            self.assertEqual(read_picture(text), picture)
            self.assertEqual(picture_text(read_picture(text)), text)

    def test_nearly_writings(self):
        pictures = [((0,),), ((7,), (10,)), SMALL, ((9, 90, 99), (0, 5, 50)), patterned(3, 4)]
        self.check_near([picture_text(picture) for picture in pictures], picture_text, read_picture, PICTURE_FORM)

    def test_no_writings(self):
        for text in ("", "\n", " \n", "1", "1 2", "1 2\n3", "1 2\n3\n", "1\n2 3\n", "1 2\n\n", "\n1 2\n", "1  2\n",
                     " 1 2\n", "1 2 \n", "1\t2\n", "1 2\r\n", "01 2\n", "00 2\n", "+1 2\n", "-1 2\n", "-0 2\n",
                     "100 2\n", "1_0 2\n", "1.0 2\n", "0x1 2\n", "1e1 2\n", "a 2\n", "1,2\n", "1 2\n3 4\n5\n",
                     "None\n", "True\n", "(1, 2)\n", "\u0661 2\n", "\u00b2 2\n", "1\u00a02\n", "1 2\u2028", "1 2\x0b",
                     "1 2\x0c", "1 2\x85", "\ufeff1 2\n", "1 2\n\x00", "9" * 5000 + "\n", "0" * 5000 + "\n",
                     "narrow\n", "...\n", "1 2\n3 4\n\n", "1 2\n \n"):
            self.refused(NoText, read_picture, text)

    def test_20_and_21(self):
        line = " ".join(["5"] * 20) + "\n"
        self.assertEqual(read_picture(line * 20), ((5,) * 20,) * 20)
        self.refused(NoText, read_picture, line * 21)
        self.refused(NoText, read_picture, "5 " + line)
        self.refused(NoText, read_picture, ("5 " + line) * 20)
        self.assertEqual(read_picture("5\n" * 20), ((5,),) * 20)
        self.refused(NoText, read_picture, "5\n" * 21)
        self.refused(NoText, read_picture, "5\n" * 10000)

    def test_things_that_are_no_texts(self):
        for thing in NO_TEXTS:
            self.refused(NoText, read_picture, thing)

    def test_no_pictures(self):
        for thing in list(NO_PICTURES.values()) + [DEEDS, "1 2\n", "0\n"]:
            self.refused(NoPicture, picture_text, thing)


class MarksTextTest(TextsTest):
    def test_written(self):
        self.assertEqual(marks_text(((0, 1, 2), (2, 1, 0))), ".kd\ndk.\n")
        self.assertEqual(marks_text(((0,),)), ".\n")
        self.assertEqual(marks_text(((1,),)), "k\n")
        self.assertEqual(marks_text(((2,), (0,))), "d\n.\n")

    def test_read(self):
        self.assertEqual(read_marks(".kd\ndk.\n"), ((0, 1, 2), (2, 1, 0)))
        told = read_marks(".k\nd.\n")
        self.assertEqual([type(told)] + [type(row) for row in told], [tuple] * 3)
        self.assertEqual({type(mark) for row in told for mark in row}, {int})

    def test_read_back_as_it_was(self):
        for marks in MARKS:
            text = marks_text(marks)
            self.assertTrue(is_writing(MARKS_FORM, text))
            self.assertEqual(read_marks(text), marks)
            self.assertEqual(marks_text(read_marks(text)), text)

    def test_nearly_writings(self):
        many = [((0,),), ((1,), (2,)), ((0, 1, 2), (2, 1, 0)), ((0, 0, 0, 0),) * 3, ((2, 2), (1, 0), (0, 0))]
        self.check_near([marks_text(marks) for marks in many], marks_text, read_marks, MARKS_FORM)

    def test_no_writings(self):
        for text in ("", "\n", "\n\n", ".", "..\n.", "..\n.\n", ".\n..\n", ". .\n", " .\n", ". \n", "K\n", "D\n",
                     "0\n", "x\n", ".k\n\n", "\n.k\n", ".k\r\n", "kd.\nkd\n", "\u2024\n", "\uff0e\n", ".\u2028",
                     ".kd.\t\n", "keep\n", "kd", ".\x00\n", "0 1\n", "kd\n.kd\n", "\u212a\n"):
            self.refused(NoText, read_marks, text)

    def test_20_and_21(self):
        self.assertEqual(read_marks(("k" * 20 + "\n") * 20), ((1,) * 20,) * 20)
        self.refused(NoText, read_marks, ("k" * 20 + "\n") * 21)
        self.refused(NoText, read_marks, ("k" * 21 + "\n") * 20)
        self.refused(NoText, read_marks, "k" * 21 + "\n")
        self.refused(NoText, read_marks, ".\n" * 21)

    def test_things_that_are_no_texts(self):
        for thing in NO_TEXTS:
            self.refused(NoText, read_marks, thing)

    def test_no_marks(self):
        right = ((0, 1, 2), (2, 1, 0))
        for thing in [None, list(right), [list(row) for row in right], tuple(list(row) for row in right), (), ((),),
                      ((), ()), right + ((0, 1),), right + ((0, 1, 2, 0),), right + ((0, 1, 3),), right + ((0, 1, -1),),
                      right + ((0, 1, True),), right + ((0, False, 1),), right + ((0, None, 1),), right + ((0, "k",
                      1),), right + (None,), right + ("...",), ".kd\n", "", "k", 0, 1, True, (0, 1, 2), ((0,) * 21,),
                      ((0,),) * 21, ((0,) * 21,) * 21, right + ([0, 1, 2],), right + ((0, (1,), 2),), (right,),
                      [right], SMALL, ((3,),), ((10 ** 30,),), deep(0, 3, tuple), deep(0, 6, tuple), deep(0, 6, list)]:
            self.refused(NoMarks, marks_text, thing)
        for thing in THINGS:
            if thing != ((0,),):
                self.refused(NoMarks, marks_text, thing)


class LogTextTest(TextsTest):
    def test_written(self):
        self.assertEqual(log_text([("keep", 0, 2, 3, 1)]), "keep 0 2 3 1\n")
        self.assertEqual(log_text([]), "")
        self.assertEqual(log_text(DEEDS), "keep 0 2 3 1\nnarrow\ndrop 20 19 10 9\nwiden\nflatten\nfree 0 0 0 0\n")

    def test_read(self):
        self.assertEqual(read_log("keep 0 2 3 1\nnarrow\n"), [("keep", 0, 2, 3, 1), ("narrow",)])
        self.assertEqual(read_log(""), [])
        told = read_log("drop 1 2 3 4\nwiden\n")
        self.assertEqual([type(told)] + [type(deed) for deed in told], [list, tuple, tuple])
        self.assertEqual([type(part) for part in told[0]], [str, int, int, int, int])

    def test_read_back_as_it_was(self):
        for deeds in LOGS + [DEEDS * 200]:
            text = log_text(deeds)
            self.assertTrue(is_writing(LOG_FORM, text))
            self.assertEqual(read_log(text), deeds)
            self.assertEqual(log_text(read_log(text)), text)

    def test_each_number_at_each_place(self):
        for number in range(21):
            for at in range(1, 5):
                deed = ("drop", 3, 4, 5, 6)[:at] + (number,) + ("drop", 3, 4, 5, 6)[at + 1:]
                self.assertEqual(read_log(log_text([deed])), [deed])

    def test_logs_of_desks(self):
        for seed in range(6):
            desk = fitted(shaded(7, 6, 50, seed), 4 + seed, 2)
            desk.keep(0, 1, wide=2)
            self.assertEqual(read_log(log_text(desk.log())), desk.log())

    def test_nearly_writings(self):
        self.check_near([log_text(deeds) for deeds in LOGS], log_text, read_log, LOG_FORM)

    def test_no_writings(self):
        for text in ("\n", " \n", "narrow", "narrow\n\n", "\nnarrow\n", "narrow \n", " narrow\n", "Narrow\n",
                     "narrow\r\n", "keep\n", "keep 0 0 1\n", "keep 0 0 1 1 1\n", "keep 0 0 1 1", "keep  0 0 1 1\n",
                     "keep 0 0 1 1 \n", "keep 00 0 1 1\n", "keep 0 0 1 21\n", "keep -1 0 1 1\n", "keep -0 0 1 1\n",
                     "keep +1 0 1 1\n", "keep 0 0 1 01\n", "keep 0 0 1 1.0\n", "keep 0 0 1 x\n", "keep 0 0 1 None\n",
                     "keep 0 0 1 True\n", "keep\t0 0 1 1\n", "keep 0\n0 1 1\n", "narrow 1\n", "narrow flatten\n",
                     "narrow narrow\n", "back\n", "forth\n", "keep 0 0 1 \u0661\n", "keep 0 0 1 \u00b9\n",
                     "keep 0 0 1 1\u2028", "narrow\x0bwiden\n", "narrow\x0cwiden\n", "narrow\u2028widen\n",
                     "narrow\x85widen\n", "keep 0 0 1 1_0\n", "None\n", "[]\n", "()", "0 0 1 1 keep\n",
                     "keep 0 0 1 " + "9" * 5000 + "\n", "keep,0,0,1,1\n", "\ufeffnarrow\n"):
            self.refused(NoText, read_log, text)

    def test_things_that_are_no_texts(self):
        for thing in NO_TEXTS:
            self.refused(NoText, read_log, thing)

    def test_no_deeds(self):
        for thing in THINGS:
            if thing != []:
                self.refused(NoDeeds, log_text, thing)
        for deed in [None, True, 0, "narrow", (), [], ["narrow"], ("narrow", 1), ("narrow", None), ("Narrow",),
                     ("back",), ("",), (None,), ("keep",), ("keep", 0, 0, 1), ("keep", 0, 0, 1, 1, 1), ["keep", 0, 0,
                     1, 1], ("keep", -1, 0, 1, 1), ("keep", 0, 21, 1, 1), ("keep", 0, 0, 21, 1), ("keep", 0, 0, 1, -1),
                     ("keep", 0, 0, 1, 10 ** 30), ("keep", True, 0, 1, 1), ("keep", 0, False, 1, 1), ("keep", 0, 0,
                     None, 1), ("keep", 0, 0, 1, "1"), ("keep", 0, 0, 1, (1,)), ("keep", 0, 0, 1, [1]), (["keep"], 0,
                     0, 1, 1), ("narrow\n",), ("keep 0 0 1 1",), ("widen", 0, 0, 1, 1), (("narrow",),), [("narrow",)],
                     deep("narrow", 6, tuple), deep("narrow", 6, list), ("keep", deep(0, 6, list), 0, 1, 1)]:
            for deeds in ([deed], DEEDS + [deed], [deed] + DEEDS):
                self.refused(NoDeeds, log_text, deeds)
        for deeds in (tuple(DEEDS), (), None, "narrow\n", "", ("narrow",), {}, [DEEDS], (DEEDS,), 0, True):
            self.refused(NoDeeds, log_text, deeds)

    def test_what_can_not_be_done_can_be_written(self):
        deeds = [("keep", 20, 20, 20, 20), ("free", 0, 0, 0, 0)] + [("narrow",)] * 40
        self.assertEqual(read_log(log_text(deeds)), deeds)
        with self.assertRaises(NoDeeds):
            replayed(SMALL, deeds)

    def test_told_lists_are_new_ones(self):
        text = log_text(DEEDS)
        first, second = read_log(text), read_log(text)
        self.assertIsNot(first, second)
        first.clear()
        first.append(None)
        self.assertEqual(second, DEEDS)
        self.assertEqual(read_log(text), DEEDS)
        empty = read_log("")
        empty.append(None)
        self.assertEqual(read_log(""), [])

    def test_the_list_handed_in_is_as_it_was(self):
        deeds = list(DEEDS)
        text = log_text(deeds)
        self.assertEqual(deeds, DEEDS)
        deeds.clear()
        self.assertEqual(log_text(DEEDS), text)

    def test_a_desk_from_a_text(self):
        desk = replayed(patterned(6, 6), read_log("keep 0 2 3 1\nnarrow\nwiden\nflatten\ndrop 1 1 2 2\nnarrow\n"))
        self.assertEqual(str(desk), "5x5")
        twin = replayed(patterned(6, 6), read_log(log_text(desk.log())))
        self.assertEqual(plain.now(twin), plain.now(desk))


if __name__ == "__main__":
    unittest.main()
