"""The errors of the package."""


class NoName(LookupError):
    """No such NAME is there."""

    def __init__(self, name):
        self.name = name


class NoRelease(LookupError):
    """The NAME has no RELEASE of this VERSION."""

    def __init__(self, version):
        # A VERSION may come as a list; what an error keeps is a tuple.
        self.version = tuple(version) if isinstance(version, list) else version


class NoNeed(LookupError):
    """No NEED has this number."""

    def __init__(self, number):
        self.number = number


class NoWord(LookupError):
    """No CLAIM begins with this word."""

    def __init__(self, word):
        self.word = word


class NothingDone(LookupError):
    """There is nothing to undo or to redo."""


class Unfit(ValueError):
    """What is handed in does not suit what is asked."""


class NoPaper(ValueError):
    """There is no such PAPER, or nothing of the kind."""


class TooMany(ValueError):
    """There would be too many to look at."""


class BadText(ValueError):
    """The text is none of its kind: no more than its first place signs begin one."""

    def __init__(self, place):
        self.place = place


class BadLine(ValueError):
    """So many first lines are the text of none of the kind."""

    def __init__(self, number):
        self.number = number
