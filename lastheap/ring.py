"""The slots of the ring and their log lines."""

from lastheap.checks import is_from
from lastheap.errors import BadCount
from lastheap.lines import Store

MOST_SLOTS = 9
# A head is a log line's number times this, and the number of the run's first log line.
RUNS = 2 ** 62
# No log line has this number or a greater one.
MOST_LINES = 2 ** 60
NO_PAIR = (-1, 0)


def check_slots(slots):
    if not is_from(slots, 1, MOST_SLOTS):
        raise BadCount("slots", slots)


def pairs_in_line(width):
    """How many pairs a log line has room for, beside its head and its mark."""
    return (width - 2) // 2


def log_pairs(changes, width):
    """The pairs (place, new) of the log lines of a block."""
    pairs = [(place, new) for place, _, new in changes]
    many = pairs_in_line(width)
    return [pairs[index:index + many] for index in range(0, len(pairs), many)]


def blank(layout, slots):
    """Contents with 0 in all words."""
    check_slots(slots)
    return ((0,) * layout.width,) * (len(layout.lines) + slots)


def complete_head(number, first):
    """The head of a complete log line of the run with this first log line."""
    return number * RUNS + first + 1


def line_words(head, last, pairs, width):
    """The words of a complete log line; `last` tells whether it is the last one of its block."""
    words = [head, int(last)]
    for place, new in pairs + [NO_PAIR] * (pairs_in_line(width) - len(pairs)):
        words.extend([place, new])
    return words


def log_stores(layout, slots, number, first, pairs, last):
    """The stores that write a log line of the run with this first log line."""
    line = len(layout.lines) + number % slots
    head = complete_head(number, first)
    words = line_words(head, last, pairs, layout.width)
    stores = [Store(line, word, words[word]) for word in range(1, layout.width)]
    return [Store(line, 0, -head)] + stores + [Store(line, 0, head)]


def read_head(head, slot, slots):
    """What a slot's head tells: (number, first, whether complete), or None if it does not count."""
    if head == 0:
        return None
    number, first = divmod(abs(head) - 1, RUNS)
    if number % slots != slot or first > number or number >= MOST_LINES:
        return None
    return (number, first, head > 0)


def read_pairs(words):
    """The pairs (place, new) of a log line, also the empty ones."""
    return [(words[index], words[index + 1]) for index in range(2, len(words), 2)]
