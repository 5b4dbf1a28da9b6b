"""How many blocks survive in the images of a translated run."""

from lastheap.checks import is_from
from lastheap.errors import NoPlace
from lastheap.images import covers, cut_times
from lastheap.lines import Store
from lastheap.watch import rooms_of, size_of, watch_of


def needs_of(trace):
    """For the first 0, 1, 2 and so on blocks the numbers of stores of each line, all durable."""
    heap_lines = len(trace.layout.lines)
    each = trace.layout.width + 1
    needed = [0] * (heap_lines + trace.slots)
    needs = [list(needed)]
    number = trace.first
    for end in line_ends(trace):
        while number < trace.first + end:
            needed[heap_lines + number % trace.slots] += each
            number += 1
        needs.append(list(needed))
    return needs


def line_ends(trace):
    """For each block the number of log lines of the run up to its last one."""
    counts = [0]
    for command in trace.commands:
        is_log = isinstance(command, Store) and command.line >= len(trace.layout.lines)
        counts.append(counts[-1] + int(is_log))
    return [counts[time] // (trace.layout.width + 1) for time in trace.made]


def staircase(trace):
    """The numbers of settled and of made blocks at each time."""
    needs = needs_of(trace)
    watch = watch_of(trace)
    settled = 0
    made = count_up_to(trace.made, 0)
    found = [(settled, made)]
    for index, command in enumerate(trace.commands):
        watch.do(command)
        made = count_up_to(trace.made, index + 1)
        while settled < made and covers(watch.sure, needs[settled + 1]):
            settled += 1
        found.append((settled, made))
    return found


def count_up_to(times, time):
    return len([one for one in times if one <= time])


def prefix_of(trace, image):
    """The number of blocks that survive in an image, or None if it is not possible."""
    if cut_times(trace, image) is None:
        return None
    return len([needed for needed in needs_of(trace)[1:] if covers(image, needed)])


def count_by_prefix(trace):
    """The numbers of possible images in which 0, 1, 2 and so on blocks survive."""
    needs = needs_of(trace)
    heap_lines = len(trace.layout.lines)
    counts = [0] * len(needs)
    for room in rooms_of(trace):
        heap_size = size_of(room[:heap_lines])
        for prefix, needed in enumerate(needs):
            many = size_above(room[heap_lines:], needed[heap_lines:])
            if many == 0:
                break
            counts[prefix] += heap_size * many
    # So far also those in which more blocks survive.
    return [many - more for many, more in zip(counts, counts[1:] + [0])]


def size_above(room, needed):
    """The number of images in a room that have the needed numbers."""
    many = 1
    for (least, greatest), number in zip(room, needed):
        many = many * max(0, greatest - max(least, number) + 1)
    return many


def image_with(trace, prefix):
    """The first possible image in which so many blocks survive."""
    needs = needs_of(trace)
    if not is_from(prefix, 0, len(needs) - 1):
        raise NoPlace(prefix)
    for room in rooms_of(trace):
        # The first image with these blocks has no more of them, since blocks are made in order.
        if covers([greatest for _, greatest in room], needs[prefix]):
            return tuple([max(least, number) for (least, _), number in zip(room, needs[prefix])])
    return None
