"""The errors of the package; each of them derives directly from HeapError."""


class HeapError(ValueError):
    """The base of all errors of the package."""


class Malformed(HeapError):
    """A text cannot go on as a program with the word at this place."""

    def __init__(self, line, column):
        self.line = line
        self.column = column

    def told(self):
        return "refused malformed"


class Faulty(HeapError):
    """A program has this fault."""

    def __init__(self, fault):
        self.fault = fault

    def told(self):
        return "refused faulty"


class Misfit(HeapError):
    """A word, a place or a number of words does not fit a program or a layout."""

    def __init__(self, place):
        self.place = place

    def told(self):
        return "refused misfit"


class BadCount(HeapError):
    """A number of something, or the index of a wrong one, is out of range."""

    def __init__(self, what, count):
        self.what = what
        self.count = count

    def told(self):
        return "refused badcount"


class Shape(HeapError):
    """Contents do not have the shape of the memory."""

    def told(self):
        return "refused shape"


class Other(HeapError):
    """The recovered heap is another one than the run's start at this place."""

    def __init__(self, place):
        self.place = place

    def told(self):
        return "refused other"


class Wide(HeapError):
    """A block needs so many log lines, more than the ring has."""

    def __init__(self, count):
        self.count = count

    def told(self):
        return "refused wide"


class NoImage(HeapError):
    """Something is no image of a trace."""

    def told(self):
        return "refused noimage"


class NoPlace(HeapError):
    """There is no image at this place, or for this prefix."""

    def __init__(self, place):
        self.place = place

    def told(self):
        return "refused noplace"


class BadLine(HeapError):
    """The command after so many others names a line or word that does not exist."""

    def __init__(self, time):
        self.time = time

    def told(self):
        return "refused badline"


class Large(HeapError):
    """There are too many images, at least so many."""

    def __init__(self, count):
        self.count = count

    def told(self):
        return "refused large"


class Busy(HeapError):
    """There is a current trace already."""

    def told(self):
        return "refused busy"


class Idle(HeapError):
    """There is no current trace."""

    def told(self):
        return "refused idle"


class NoBack(HeapError):
    """There is nothing to undo."""

    def told(self):
        return "refused noback"


class BadText(HeapError):
    """The part with this index is not a command's text."""

    def __init__(self, place):
        self.place = place

    def told(self):
        return "refused badtext"
