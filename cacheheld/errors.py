"""The errors of the package (point 1)."""


class CacheError(ValueError):
    """The base class of all errors of the package."""


class BadDesign(CacheError):
    """A value is no design."""


class BadWorld(CacheError):
    """A value is no world."""


class BadPromise(CacheError):
    """A value is not the name of a promise."""


class BadPromises(CacheError):
    """A value is no ascending tuple of different promises."""


class BadNumber(CacheError):
    """A value is no integer, or not one that is asked for."""


class NotBroken(CacheError):
    """A promise holds, so that no run breaks it."""


class NotNow(CacheError):
    """An event cannot come now."""


class NotText(CacheError):
    """A value is no string."""


class NothingToUndo(CacheError):
    """No event has been done that could be taken back."""


class BadRun(CacheError):
    """A value is no run; index tells the first item that cannot come, None if the value is no short tuple."""

    def __init__(self, index):
        super().__init__(f"no run: index {index}")
        self.index = index


class InvalidText(CacheError):
    """A text is not one that can be read; line tells where, from 1."""

    def __init__(self, line):
        super().__init__(f"invalid text: line {line}")
        self.line = line
