"""What the stores of a trace can leave, line by line."""

from lastheap.lines import Flush, Store


class Watch:
    """For each line the numbers of stores that are made, flushed and sure, while commands are done."""

    def __init__(self, many):
        self.made = [0] * many
        self.flushed = [0] * many
        self.sure = [0] * many

    def do(self, command):
        if isinstance(command, Store):
            self.made[command.line] += 1
        elif isinstance(command, Flush):
            self.flushed[command.line] = self.made[command.line]
        else:
            self.sure = list(self.flushed)


def watch_of(trace):
    """A watch at the time 0."""
    return Watch(len(trace.layout.lines) + trace.slots)


def rooms_of(trace):
    """The possible images in their order, those with the same latest store together.

    For each such store, and before them for none, the room of the images: for each line the
    least and the greatest number. They can be taken from the lines in any way.
    """
    watch = watch_of(trace)
    rooms = [list(zip(watch.sure, watch.made))]
    for command in trace.commands:
        watch.do(command)
        if isinstance(command, Store):
            room = list(zip(watch.sure, watch.made))
            # At the time of the store itself, so its line has all that was made.
            room[command.line] = (watch.made[command.line], watch.made[command.line])
            rooms.append(room)
    return rooms


def size_of(room):
    """The number of images in a room."""
    many = 1
    for least, greatest in room:
        many = many * (greatest - least + 1)
    return many
