"""The refusals: each is a class of its own, so that it can be taken by name."""


class SeamError(ValueError):
    """Any refusal."""


class NoPicture(SeamError):
    """The thing is no picture."""


class NoMarks(SeamError):
    """The thing is no marks of this picture."""


class NoSeam(SeamError):
    """The thing is no seam of this picture."""


class NoCells(SeamError):
    """The thing is no tuple of a cell for each row."""


class NoManner(SeamError):
    """The thing is no manner by which seams cost."""


class NoWidth(SeamError):
    """The thing is no width that can be asked for here."""


class NoNumber(SeamError):
    """The thing is no number that can be asked for here."""


class NoTable(SeamError):
    """The thing is no table of orders for this picture."""


class NoPictures(SeamError):
    """The thing is no list of pictures of one size."""


class NoWay(SeamError):
    """There is no seam."""


class NoBox(SeamError):
    """The box does not lie in the picture."""


class NoRoom(SeamError):
    """The picture is as narrow, as low or as wide as it can be; now is how much that is."""

    def __init__(self, now):
        SeamError.__init__(self, f"no room: it is {now} now")
        self.now = now


class NoBack(SeamError):
    """There is no deed to be taken back, or done again."""


class NoDeeds(SeamError):
    """The thing is no deeds, or they can not be done."""


class NoText(SeamError):
    """The thing is no writing of what was to be read."""
