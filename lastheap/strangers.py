"""What the commands of others can leave, held against their claims."""

from lastheap.errors import BadCount, BadLine, Large
from lastheap.images import all_images, contents_of, count_images, cut_times
from lastheap.lines import is_there
from lastheap.recovery import recover
from lastheap.running import Block, blocks_of, heaps
from lastheap.runtime import Trace, recover_for

MOST_IMAGES = 500


def wrong_image(run, layout, contents, slots, commands, made, passed):
    """The first possible image from which recovery leads to no heap that is claimed, or None."""
    recover_for(run, layout, contents, slots)
    befores = blocks_before_others(run)
    check_times(run, befores, made, passed)
    check_commands(layout, slots, commands)
    trace = Trace(layout, slots, contents, commands, made, passed, (), 0)
    if count_images(trace) > MOST_IMAGES:
        raise Large(MOST_IMAGES + 1)
    found = heaps(run)
    for image in all_images(trace):
        first, last = cut_times(trace, image)
        least = max([before for before, time in zip(befores, passed) if time <= last], default=0)
        most = len([time for time in made if time <= first])
        recovered = recover(contents_of(trace, image), layout, slots)
        if recovered.heap not in found[least:most + 1]:
            return image
    return None


def blocks_before_others(run):
    """For each sync and out the number of blocks before it."""
    numbers = []
    many = 0
    for event in run.events:
        if isinstance(event, Block):
            many += 1
        else:
            numbers.append(many)
    return numbers


def check_times(run, befores, made, passed):
    if len(made) != len(blocks_of(run)):
        raise BadCount("made", len(made))
    if len(passed) != len(befores):
        raise BadCount("passed", len(passed))


def check_commands(layout, slots, commands):
    for time, command in enumerate(commands):
        if not is_there(command, layout, slots):
            raise BadLine(time)
