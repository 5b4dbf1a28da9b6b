"""The images that cuts can leave, and their order."""

from lastheap.checks import is_from, is_sequence
from lastheap.errors import NoImage, NoPlace
from lastheap.lines import Fence, Store
from lastheap.watch import rooms_of, size_of, watch_of


def check_image(trace, image):
    """Raise NoImage unless there is a number of stores for each line."""
    whole = whole_image(trace)
    if not is_sequence(image) or len(image) != len(whole):
        raise NoImage()
    for number, made in zip(image, whole):
        if not is_from(number, 0, made):
            raise NoImage()


def whole_image(trace):
    """The image with all stores of the trace."""
    watch = watch_of(trace)
    for command in trace.commands:
        watch.do(command)
    return tuple(watch.made)


def contents_of(trace, image):
    """The contents with the first so many stores of each line."""
    check_image(trace, image)
    lines = [list(line) for line in trace.start]
    left = list(image)
    for command in trace.commands:
        if isinstance(command, Store) and left[command.line] > 0:
            left[command.line] -= 1
            lines[command.line][command.word] = command.number
    return tuple([tuple(line) for line in lines])


def cut_times(trace, image):
    """The first and the last time at which a cut can leave an image, or None."""
    check_image(trace, image)
    first = 0
    last = len(trace.commands)
    watch = watch_of(trace)
    for index, command in enumerate(trace.commands):
        watch.do(command)
        if isinstance(command, Store) and watch.made[command.line] == image[command.line]:
            first = index + 1
        if isinstance(command, Fence) and not covers(image, watch.sure):
            last = min(last, index)
    if first > last:
        return None
    return (first, last)


def covers(image, needed):
    """Whether an image has at least the needed number of stores of each line."""
    for number, least in zip(image, needed):
        if number < least:
            return False
    return True


def count_images(trace):
    """The number of possible images."""
    return sum([size_of(room) for room in rooms_of(trace)])


def image_at(trace, place):
    """The possible image with a place in the order."""
    rooms = rooms_of(trace)
    sizes = [size_of(room) for room in rooms]
    if not is_from(place, 0, sum(sizes) - 1):
        raise NoPlace(place)
    left = place
    for room, size in zip(rooms, sizes):
        if left < size:
            return image_in(room, left)
        left = left - size
    return None


def image_in(room, place):
    """The image with a place among those of a room."""
    image = []
    for least, greatest in reversed(room):
        place, more = divmod(place, greatest - least + 1)
        image.append(least + more)
    return tuple(image[::-1])


def all_images(trace):
    """The list of all possible images in their order."""
    return [image_in(room, place) for room in rooms_of(trace) for place in range(size_of(room))]


def place_of(trace, image):
    """The place of an image in the order, or None if it is not possible."""
    times = cut_times(trace, image)
    if times is None:
        return None
    first, _ = times
    # Each store up to the latest durable one has a room, and the images without one have one.
    index = len([command for command in trace.commands[:first] if isinstance(command, Store)])
    rooms = rooms_of(trace)
    place = 0
    for number, (least, greatest) in zip(image, rooms[index]):
        place = place * (greatest - least + 1) + number - least
    return place + sum([size_of(room) for room in rooms[:index]])
