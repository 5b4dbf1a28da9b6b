"""The slots of the ring and their log lines."""

from lastheap.checks import is_from
from lastheap.errors import BadCount

MOST_SLOTS = 9


def check_slots(slots):
    if not is_from(slots, 1, MOST_SLOTS):
        raise BadCount("slots", slots)


def pairs_in_line(width):
    """How many pairs a log line has room for, beside its head and its mark."""
    return (width - 2) // 2


def log_pairs(changes, width):
    """The pairs (place, new) of the log lines of a block."""
    pairs = [(place, new) for place, _, new in changes]
    many = pairs_in_line(width)
    return [pairs[index:index + many] for index in range(0, len(pairs), many)]


def blank(layout, slots):
    """Contents with 0 in all words."""
    check_slots(slots)
    return ((0,) * layout.width,) * (len(layout.lines) + slots)
