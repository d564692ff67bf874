"""Texts: pictures, marks and logs as they are written, and read back from their writings alone."""

from seamhall.errors import NoDeeds, NoMarks, NoText
from seamhall.logs import is_deeds
from seamhall.pictures import MOST_CELL, MOST_LONG, is_picture, need_picture
from seamhall.ways import is_mark

# The sign of a mark stands at the place of its number.
MARK_SIGNS = ".kd"


def lines_text(lines):
    """The lines, each ended by a line feed."""
    return "".join([line + "\n" for line in lines])


def lines_in(text):
    """The lines of a text in which each is ended by a line feed; NoText of other things."""
    if not isinstance(text, str):
        raise NoText("it is no text")
    lines = text.split("\n")
    if lines[-1] != "":
        raise NoText("the last line is not ended by a line feed")
    return lines[:-1]


def numbers_to(most):
    """The whole numbers from 0 to most by their writings, so that no other writing leads to one."""
    return {str(number): number for number in range(most + 1)}


def picture_text(picture):
    """The writing of a picture."""
    need_picture(picture)
    return lines_text([" ".join([str(cell) for cell in row]) for row in picture])


def read_picture(text):
    """The picture of which this is the writing."""
    numbers = numbers_to(MOST_CELL)
    # What is no number is None here, and so is no cell.
    picture = tuple([tuple([numbers.get(word) for word in line.split(" ")]) for line in lines_in(text)])
    if not is_picture(picture):
        raise NoText("it is no writing of a picture")
    return picture


def is_some_marks(thing):
    """Whether it is marks of some picture; any thing may be asked."""
    # Marks have the form of a picture with marks as cells.
    return is_picture(thing) and all([is_mark(mark) for row in thing for mark in row])


def marks_text(marks):
    """The writing of marks."""
    if not is_some_marks(marks):
        raise NoMarks("marks are a tuple of rows as long as those of some picture, of 0, 1 and 2")
    return lines_text(["".join([MARK_SIGNS[mark] for mark in row]) for row in marks])


def read_marks(text):
    """The marks of which this is the writing."""
    # What is no sign of a mark is -1 here, and so is no mark.
    marks = tuple([tuple([MARK_SIGNS.find(sign) for sign in line]) for line in lines_in(text)])
    if not is_some_marks(marks):
        raise NoText("it is no writing of marks")
    return marks


def is_log(thing):
    """Whether it is a list of deeds that can be written; any thing may be asked."""
    return is_deeds(thing) and all([0 <= part <= MOST_LONG for deed in thing for part in deed[1:]])


def log_text(deeds):
    """The writing of a list of deeds."""
    if not is_log(deeds):
        raise NoDeeds("deeds are a list of tuples as the log of a desk tells them, with numbers from 0 to 20")
    return lines_text([" ".join([str(part) for part in deed]) for deed in deeds])


def read_log(text):
    """The list of deeds of which this is the writing."""
    numbers = numbers_to(MOST_LONG)
    deeds = []
    for line in lines_in(text):
        word, *parts = line.split(" ")
        # What is no number is None here, and so is no part of a deed.
        deeds.append((word,) + tuple([numbers.get(part) for part in parts]))
    if not is_log(deeds):
        raise NoText("it is no writing of a list of deeds")
    return deeds
