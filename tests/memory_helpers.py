"""Layouts, runs and traces for tests of the memory."""

from lastheap.images import contents_of, image_at, count_images
from lastheap.lines import Fence, Flush, Layout, Store
from lastheap.ring import blank
from lastheap.runtime import Trace
from lastheap.running import Block, Out, Run, Sync

HEAD = 2 ** 62


def random_layout(chance, many, widths=(4, 4, 6, 8)):
    """A layout of so many places, in any order."""
    width = chance.choice(widths)
    places = list(range(many))
    chance.shuffle(places)
    lines = []
    while places:
        size = chance.randint(1, min(width, len(places)))
        lines.append(places[:size])
        places = places[size:]
    return Layout(width, lines)


def random_run(chance, start, many, most=3, share=0.3):
    """A run of so many blocks with up to `most` changes, and syncs and outs between them."""
    heap = list(start)
    events = []
    left = many if heap else 0
    while left or chance.random() < share:
        if not left or chance.random() < share:
            events.append(chance.choice([Sync(), Out(chance.randint(-9, 9))]))
            continue
        left -= 1
        places = sorted(chance.sample(range(len(heap)), min(len(heap), chance.randint(1, most))))
        changes = []
        for place in places:
            new = chance.choice([word for word in (0, 1, 2, -3, 2 ** 60) if word != heap[place]])
            changes.append((place, heap[place], new))
            heap[place] = new
        events.append(Block(changes))
    return Run(start, events, None)


def random_cut(chance, trace):
    """The contents that some possible image leaves."""
    many = count_images(trace)
    return contents_of(trace, image_at(trace, chance.randrange(many)))


def head(number, first):
    """The head of a complete log line."""
    return number * HEAD + first + 1


def log_line(width, number, first, mark, *pairs):
    """The words of a complete log line."""
    words = [head(number, first), mark]
    for pair in pairs:
        words += pair
    return words + [-1, 0] * ((width - len(words)) // 2)


def plain(command):
    """A command as a tuple."""
    if isinstance(command, Store):
        return ("store", command.line, command.word, command.number)
    if isinstance(command, Flush):
        return ("flush", command.line)
    assert isinstance(command, Fence), command
    return ("fence",)


def made_by_hand(layout, slots, commands, start=None):
    """A trace of any commands."""
    return Trace(layout, slots, start or blank(layout, slots), commands, (), (), (), 0)


def random_commands(chance, layout, slots, many, fences=0.2, flushes=0.3):
    """Any commands for the lines and words that there are."""
    lines = len(layout.lines) + slots
    commands = []
    for _ in range(many):
        draw = chance.random()
        if draw < fences:
            commands.append(Fence())
        elif draw < fences + flushes:
            commands.append(Flush(chance.randrange(lines)))
        else:
            commands.append(Store(chance.randrange(lines), chance.randrange(layout.width), chance.randint(-9, 9)))
    return commands
