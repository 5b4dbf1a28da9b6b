"""More about runs: joining their blocks, and what they cost."""

from lastheap.errors import BadCount
from lastheap.lines import Fence, Flush, check_layout
from lastheap.ring import MOST_SLOTS, blank
from lastheap.running import Block, Run, blocks_of
from lastheap.runtime import lines_needed, translate


def joined(run, sizes):
    """The run in which the first so many blocks are one, then the next so many, and so on."""
    total = sum(sizes)
    if total != len(blocks_of(run)) or min(sizes, default=1) < 1:
        raise BadCount("sizes", total)
    found = []
    index = 0
    # The blocks so far of those that become one.
    group = []
    for event in run.events:
        if isinstance(event, Block):
            group.append(event)
            if len(group) == sizes[index]:
                found.extend(one_block(group))
                group = []
                index += 1
        elif group:
            raise BadCount("joined", index)
        else:
            found.append(event)
    return Run(run.start, found, run.stop)


def one_block(group):
    """The block with all changes of these, in a list that is empty if nothing is left of them."""
    olds = {}
    news = {}
    for block in group:
        for place, old, new in block.changes:
            olds.setdefault(place, old)
            news[place] = new
    changes = [(place, olds[place], news[place]) for place in sorted(olds) if olds[place] != news[place]]
    if not changes:
        return []
    return [Block(changes)]


def trace_from_blank(run, layout, slots):
    """The trace of a run as if it started in a blank memory."""
    check_layout(layout, len(run.start))
    contents = blank(layout, slots)
    return translate(Run((0,) * len(run.start), run.events, None), layout, contents, slots)


def fences(run, layout, slots):
    """The number of fences of a run from blank contents."""
    trace = trace_from_blank(run, layout, slots)
    return len([command for command in trace.commands if isinstance(command, Fence)])


def flushes(run, layout, slots):
    """The number of flushes of a run from blank contents."""
    trace = trace_from_blank(run, layout, slots)
    return len([command for command in trace.commands if isinstance(command, Flush)])


def smallest_ring(run, layout, most):
    """The smallest number of slots with which there are at most so many fences, or None."""
    check_layout(layout, len(run.start))
    least = max(lines_needed(run, layout) + [1])
    for slots in range(least, MOST_SLOTS + 1):
        if fences(run, layout, slots) <= most:
            return slots
    return None
