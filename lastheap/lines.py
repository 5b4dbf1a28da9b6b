"""Where places stand in the lines of a memory, and the commands for it."""

from lastheap.checks import is_from, is_number
from lastheap.errors import BadCount, Misfit
from lastheap.sites import sites_of

NARROWEST = 4
WIDEST = 12


class Layout:
    """The number of words of each line, and for each heap line its places in order."""

    def __init__(self, width, lines):
        check_width(width)
        for index, line in enumerate(lines):
            if not 1 <= len(line) <= width:
                raise BadCount("line", index)
        check_places([place for line in lines for place in line])
        self.width = width
        self.lines = tuple([tuple(line) for line in lines])

    def __eq__(self, other):
        return isinstance(other, Layout) and self.width == other.width and self.lines == other.lines


class Store:
    """Puts a number into a word of a line."""

    def __init__(self, line, word, number):
        self.line = line
        self.word = word
        self.number = number

    def __eq__(self, other):
        return (
            isinstance(other, Store)
            and self.line == other.line
            and self.word == other.word
            and self.number == other.number
        )


class Flush:
    """Makes the stores of a line so far last when the next fence is done."""

    def __init__(self, line):
        self.line = line

    def __eq__(self, other):
        return isinstance(other, Flush) and self.line == other.line


class Fence:
    """Waits for the flushes before it."""

    def __eq__(self, other):
        return isinstance(other, Fence)


def check_width(width):
    if not is_from(width, NARROWEST, WIDEST) or width % 2 == 1:
        raise BadCount("width", width)


def check_places(places):
    """Raise Misfit unless these are the numbers from 0 on, each once, in any order."""
    seen = {}
    for place in places:
        if not is_number(place) or place < 0 or place in seen:
            raise Misfit(place)
        seen[place] = True
    for place in range(len(seen)):
        if place not in seen:
            raise Misfit(place)


def packed(program, width):
    """The layout in which each line is filled with the next places."""
    return Layout(width, lines_of(sites_of(program), width, [0]))


def spread(program, width):
    """The layout in which also each variable, array and record begins a line."""
    sites = sites_of(program)
    return Layout(width, lines_of(sites, width, sites.heads))


def lines_of(sites, width, heads):
    """All places in lines; each of these heads begins one."""
    lines = []
    for place in range(len(sites.kinds)):
        if place in heads or len(lines[-1]) == width:
            lines.append([])
        lines[-1].append(place)
    return lines


def check_layout(layout, many):
    """Raise Misfit unless the layout has just the places of a heap with so many words."""
    there = sum([len(line) for line in layout.lines])
    if there != many:
        raise Misfit(min(there, many))


def is_there(command, layout, slots):
    """Whether the memory has the line, and the word, that a command names."""
    if isinstance(command, Fence):
        return True
    if not is_from(command.line, 0, len(layout.lines) + slots - 1):
        return False
    return isinstance(command, Flush) or is_from(command.word, 0, layout.width - 1)


def homes_of(layout):
    """For each place the line and the word where it stands."""
    return {place: (line, word) for line, places in enumerate(layout.lines) for word, place in enumerate(places)}


def stores_of(words, homes):
    """The stores that put these words at their places, by ascending places."""
    stores = []
    for place in sorted(words):
        line, word = homes[place]
        stores.append(Store(line, word, words[place]))
    return stores
