"""What a memory holds after a cut."""

from lastheap.checks import is_sequence
from lastheap.errors import Shape
from lastheap.lines import homes_of, stores_of
from lastheap.ring import check_slots, read_head, read_pairs


class Recovered:
    """A heap, the stores that bring it about, the number of applied log lines, and the next one's."""

    def __init__(self, heap, stores, applied, following):
        self.heap = tuple(heap)
        self.stores = tuple(stores)
        self.applied = applied
        self.following = following

    def __eq__(self, other):
        return (
            isinstance(other, Recovered)
            and self.heap == other.heap
            and self.stores == other.stores
            and self.applied == other.applied
            and self.following == other.following
        )


def recover(contents, layout, slots):
    """Find the heap that contents mean; raises BadCount and Shape."""
    check_slots(slots)
    check_shape(contents, layout, slots)
    ring = contents[len(layout.lines):]
    told = told_lines(ring)
    applied = applied_lines(ring, told)
    homes = homes_of(layout)
    stored = stored_words(applied, homes)
    heap = []
    for place in range(len(homes)):
        line, word = homes[place]
        heap.append(stored.get(place, contents[line][word]))
    return Recovered(heap, stores_of(stored, homes), len(applied), following_line(told))


def check_shape(contents, layout, slots):
    """Raise Shape unless there is a word for each word of the memory."""
    if not is_sequence(contents) or len(contents) != len(layout.lines) + slots:
        raise Shape()
    for line in contents:
        if not is_sequence(line) or len(line) != layout.width:
            raise Shape()


def told_lines(ring):
    """The log lines that the heads tell, by numbers: (first line of the run, whether complete)."""
    told = {}
    for slot, words in enumerate(ring):
        found = read_head(words[0], slot, len(ring))
        if found is not None:
            number, first, complete = found
            told[number] = (first, complete)
    return told


def following_line(told):
    """The number of the next log line."""
    if not told:
        return 0
    return max(list(told)) + 1


def applied_lines(ring, told):
    """The words of the log lines that are applied, in order."""
    if not told:
        return []
    greatest = max(list(told))
    first, _ = told[greatest]
    number = max(greatest - len(ring) + 1, first)
    taken = []
    many = 0
    while told.get(number) == (first, True):
        taken.append(ring[number % len(ring)])
        # A block of which the last line is missing is not applied.
        if taken[-1][1] == 1:
            many = len(taken)
        number += 1
    return taken[:many]


def stored_words(lines, homes):
    """The last word for each place of the layout that these log lines name."""
    stored = {}
    for words in lines:
        for place, word in read_pairs(words):
            if place in homes:
                stored[place] = word
    return stored
