"""A second reading of [15] to [22], from their words, without care for speed.

Commands are looked at as they stand in the list; what is sure is asked anew each time.
"""

import itertools

from lastheap.lines import Fence, Flush, Store
from lastheap.running import Block

HEAD = 2 ** 62


# [15]: what is sure, and what a cut can leave.

def sure_count(commands, line, time):
    """The number of stores of a line that are sure at a time."""
    done = commands[:time]
    fences = [at for at, command in enumerate(done) if isinstance(command, Fence)]
    flushes = [
        at for at, command in enumerate(done)
        if isinstance(command, Flush) and command.line == line and any(fence > at for fence in fences)
    ]
    if not flushes:
        return 0
    return made_count(commands, line, flushes[-1])


def made_count(commands, line, time):
    return sum(isinstance(command, Store) and command.line == line for command in commands[:time])


def is_sure(commands, index, time):
    """Whether the store with this index is sure at a time."""
    line = commands[index].line
    return sure_count(commands, line, time) > made_count(commands, line, index)


def images_at(commands, lines, time):
    """All images that a cut at this time can leave."""
    rooms = [
        range(sure_count(commands, line, time), made_count(commands, line, time) + 1) for line in range(lines)
    ]
    return set(itertools.product(*rooms))


def latest_store(commands, image):
    """The place among the commands of the latest durable store, or -1."""
    latest = -1
    left = list(image)
    for at, command in enumerate(commands):
        if isinstance(command, Store) and left[command.line]:
            left[command.line] -= 1
            latest = at
    return latest


def images_in_order(commands, lines):
    """All possible images as [22] orders them, with the times at which a cut can leave each."""
    times = {}
    for time in range(len(commands) + 1):
        for image in images_at(commands, lines, time):
            times.setdefault(image, []).append(time)
    ordered = sorted(times, key=lambda image: (latest_store(commands, image), image))
    return [(image, times[image]) for image in ordered]


# [20]: recovery.

def told(head, slot, slots):
    if head == 0:
        return None
    m = abs(head) - 1
    j, r = m // HEAD, m % HEAD
    if j % slots != slot or r > j or j >= 2 ** 60:
        return None
    return (j, r, head > 0)


def second_recovery(contents, layout, slots):
    """The heap, the stores as tuples, the number of applied lines and the following number."""
    heap_lines = len(layout.lines)
    home = {place: (line, word) for line, places in enumerate(layout.lines) for word, place in enumerate(places)}
    words = {place: contents[line][word] for place, (line, word) in home.items()}
    ring = contents[heap_lines:]
    heads = [told(ring[slot][0], slot, slots) for slot in range(slots)]
    counting = [head for head in heads if head is not None]
    stores = {}
    applied = following = 0
    if counting:
        most, run, _ = max(counting)
        following = most + 1
        line = start = max(most - slots + 1, run)
        while heads[line % slots] == (line, run, True):
            line += 1
        taken = list(range(start, line))
        while taken and ring[taken[-1] % slots][1] != 1:
            taken.pop()
        applied = len(taken)
        for number in taken:
            text = ring[number % slots]
            for at in range(1, layout.width // 2):
                if text[2 * at] in home:
                    stores[text[2 * at]] = text[2 * at + 1]
    words.update(stores)
    heap = tuple(words[place] for place in sorted(words))
    return heap, tuple((*home[place], stores[place]) for place in sorted(stores)), applied, following


# [18]: the runtime.

class SecondRuntime:
    def __init__(self, run, layout, contents, slots):
        self.layout = layout
        self.slots = slots
        self.heap_lines = len(layout.lines)
        self.home = {
            place: (line, word) for line, places in enumerate(layout.lines) for word, place in enumerate(places)
        }
        _, stores, _, self.first = second_recovery(contents, layout, slots)
        self.commands = [Store(*store) for store in stores]
        self.recovery = list(range(len(stores)))
        # Log lines as (block, places, indexes of their stores), blocks as (log lines, changes, whether whole).
        self.log = []
        self.blocks = []
        # Data stores as (place, index).
        self.data = []
        self.made, self.passed, self.reasons = [], [], []
        for index, event in enumerate(run.events):
            if isinstance(event, Block):
                self.write(event.changes)
            else:
                while not self.sure_lines(range(len(self.log)), len(self.commands)):
                    self.fence(("event", index))
                self.passed.append(len(self.commands))

    def sure_lines(self, numbers, time):
        return all(is_sure(self.commands, at, time) for number in numbers for at in self.log[number][2] if at < time) \
            and all(self.log[number][2][-1] < time for number in numbers)

    def settled(self, block, time):
        lines, _, whole = self.blocks[block]
        return bool(whole and self.sure_lines(range(lines[-1] + 1), time))

    def write(self, changes):
        room = self.layout.width // 2 - 1
        pieces = [changes[at:at + room] for at in range(0, len(changes), room)]
        block = len(self.blocks)
        self.blocks.append([[], changes, False])
        for at, piece in enumerate(pieces):
            while not self.may_begin():
                self.fence(("line", self.first + len(self.log)))
            number = self.first + len(self.log)
            line = self.heap_lines + number % self.slots
            m = number * HEAD + self.first + 1
            words = [1 if at == len(pieces) - 1 else 0]
            for place, _, new in piece:
                words += [place, new]
            words += [-1, 0] * (room - len(piece))
            begun = len(self.commands)
            self.commands.append(Store(line, 0, -m))
            for word, value in enumerate(words):
                self.commands.append(Store(line, word + 1, value))
            self.commands.append(Store(line, 0, m))
            self.blocks[block][0].append(len(self.log))
            self.log.append((block, [change[0] for change in piece], list(range(begun, len(self.commands)))))
        self.blocks[block][2] = True
        self.made.append(len(self.commands))

    def may_begin(self):
        now = len(self.commands)
        if not self.log and not all(is_sure(self.commands, at, now) for at in self.recovery):
            return False
        before = len(self.log) - self.slots
        return before < 0 or self.safe(before, now)

    def safe(self, number, now):
        block, places, _ = self.log[number]
        if not self.settled(block, now):
            return False
        return all(self.named_later(number, place, now) or self.stored(place, now) for place in places)

    def named_later(self, number, place, now):
        return any(
            place in places and self.settled(block, now) for block, places, _ in self.log[number + 1:]
        )

    def stored(self, place, now):
        last = max(
            block for block in range(len(self.blocks))
            if any(place == change[0] for change in self.blocks[block][1]) and self.settled(block, now)
        )
        return any(
            other == place and is_sure(self.commands, at, now) and self.settled(last, at) for other, at in self.data
        )

    def fence(self, reason):
        before = len(self.commands)
        settled = [block for block in range(len(self.blocks)) if self.settled(block, before)]
        for line in range(self.heap_lines + self.slots):
            stores = [
                at for at in range(before) if isinstance(self.commands[at], Store) and self.commands[at].line == line
            ]
            if not all(is_sure(self.commands, at, before) for at in stores):
                self.commands.append(Flush(line))
        self.commands.append(Fence())
        self.reasons.append(reason)
        now = len(self.commands)
        words = {}
        for block in range(len(self.blocks)):
            if block not in settled and self.settled(block, now):
                words.update({place: new for place, _, new in self.blocks[block][1]})
        for place in sorted(words):
            self.data.append((place, len(self.commands)))
            self.commands.append(Store(*self.home[place], words[place]))
