"""A second reading of [17], [24] and [25], from their words, without care for speed.

All rules that a command breaks are looked for, from the list of the commands before it.
"""

from lastheap.lines import Fence, Flush, Store
from lastheap.running import Block, heaps
from tests.second_memory import HEAD, images_in_order, second_recovery

WORDS = ("line", "log", "a", "b", "c", "d")


class SecondRules:
    def __init__(self, run, layout, contents, slots, commands):
        self.layout = layout
        self.slots = slots
        self.commands = list(commands)
        self.heap_lines = len(layout.lines)
        self.home = {
            place: (line, word) for line, places in enumerate(layout.lines) for word, place in enumerate(places)
        }
        _, stores, _, self.first = second_recovery(contents, layout, slots)
        self.recovery = [Store(*store) for store in stores]
        # Log lines as (block, places, stores); blocks as (log lines, new words); syncs and outs as blocks before them.
        self.lines = []
        self.blocks = []
        self.waiting = []
        for event in run.events:
            if isinstance(event, Block):
                self.add_block(event.changes)
            else:
                self.waiting.append(len(self.lines))
        self.log_stores = [store for _, _, stores in self.lines for store in stores]
        self.known = {}

    def add_block(self, changes):
        room = self.layout.width // 2 - 1
        pieces = [changes[at:at + room] for at in range(0, len(changes), room)]
        numbers = []
        for piece in pieces:
            numbers.append(len(self.lines))
            number = self.first + len(self.lines)
            m = number * HEAD + self.first + 1
            words = [-m, int(piece is pieces[-1])]
            for place, _, new in piece:
                words += [place, new]
            words += [-1, 0] * (room - len(piece))
            line = self.heap_lines + number % self.slots
            stores = [Store(line, word, value) for word, value in enumerate(words)] + [Store(line, 0, m)]
            self.lines.append((len(self.blocks), [place for place, _, _ in piece], stores))
        self.blocks.append((numbers, {place: new for place, _, new in changes}))

    def sure_number(self, line, time):
        """The number of stores of a line that are sure at a time."""
        if (line, time) not in self.known:
            many = 0
            fences = [at for at in range(time) if isinstance(self.commands[at], Fence)]
            if fences:
                flushed = [at for at in range(fences[-1]) if self.commands[at] == Flush(line)]
                if flushed:
                    many = len(self.stores_of(line, flushed[-1]))
            self.known[line, time] = many
        return self.known[line, time]

    def stores_of(self, line, time):
        return [at for at in range(time) if isinstance(self.commands[at], Store) and self.commands[at].line == line]

    def is_sure(self, at, time):
        line = self.commands[at].line
        return len(self.stores_of(line, at)) < self.sure_number(line, time)

    def log_made(self, time):
        """The indexes of the stores to slots, which are the first ones of the run if no rule was broken."""
        return [
            at for at in range(time) if isinstance(self.commands[at], Store) and self.commands[at].line >= self.heap_lines
        ]

    def sure_lines(self, time):
        """The numbers of the log lines all stores of which are sure."""
        made = self.log_made(time)
        size = self.layout.width + 1
        return [
            number for number in range(len(made) // size)
            if all(self.is_sure(at, time) for at in made[number * size:(number + 1) * size])
        ]

    def settled(self, time):
        """The blocks that are settled at a time."""
        key = ("settled", time)
        if key not in self.known:
            sure = self.sure_lines(time)
            self.known[key] = [
                block for block, (numbers, _) in enumerate(self.blocks)
                if all(number in sure for number in range(max(numbers, default=-1) + 1))
            ]
        return self.known[key]

    def last_word(self, place, time):
        """The word of the last settled block that changes a place, in a list."""
        return [self.blocks[block][1][place] for block in self.settled(time) if place in self.blocks[block][1]][-1:]

    def is_safe(self, number, time):
        block, places, _ = self.lines[number]
        return block in self.settled(time) and all(
            self.is_named_later(number, place, time) or self.has_data(place, time) for place in places
        )

    def is_named_later(self, number, place, time):
        return any(
            place in places and block in self.settled(time) for block, places, _ in self.lines[number + 1:]
        )

    def has_data(self, place, time):
        last = max(block for block in self.settled(time) if place in self.blocks[block][1])
        line, word = self.home[place]
        for at in self.stores_of(line, time):
            # Before the first log store there are stores of the recovery only.
            if self.commands[at].word == word and self.is_sure(at, time) and last in self.settled(at):
                return True
        return False

    def is_there(self, command):
        if isinstance(command, Fence):
            return True
        if command.line not in range(self.heap_lines + self.slots):
            return False
        return isinstance(command, Flush) or command.word in range(self.layout.width)

    def broken_by(self, time):
        """All rules that the command at a time breaks; the earlier ones break none."""
        command = self.commands[time]
        if not self.is_there(command):
            return ["line"]
        if not isinstance(command, Store):
            return []
        made = len(self.log_made(time))
        if command.line < self.heap_lines:
            data = any(
                self.home[place] == (command.line, command.word) and self.last_word(place, time) == [command.number]
                for place in self.home
            )
            return [] if data or (made == 0 and command in self.recovery) else ["a"]
        if self.log_stores[made:made + 1] != [command]:
            return ["log"]
        number, inside = divmod(made, self.layout.width + 1)
        broken = []
        if inside == 0 and number >= self.slots and not self.is_safe(number - self.slots, time):
            broken.append("b")
        if made == 0 and not all(self.recovered(store, time, True) for store in self.recovery):
            broken.append("c")
        if inside == 0 and not all(
            set(range(before)) <= set(self.sure_lines(time)) for before in self.waiting if before <= number
        ):
            broken.append("d")
        return broken

    def recovered(self, store, time, surely):
        return any(
            self.commands[at] == store and (not surely or self.is_sure(at, time)) for at in range(time)
        )

    def broken_at_the_end(self):
        time = len(self.commands)
        made = len(self.log_made(time))
        broken = []
        if made == 0 and not all(self.recovered(store, time, False) for store in self.recovery):
            broken.append("c")
        if made < len(self.log_stores):
            broken.append("log")
        if not all(set(range(before)) <= set(self.sure_lines(time)) for before in self.waiting):
            broken.append("d")
        return broken

    def broken(self):
        """The first broken rules, all of them, and the time; or None."""
        for time in range(len(self.commands)):
            broken = self.broken_by(time)
            if broken:
                return broken, time
        broken = self.broken_at_the_end()
        return (broken, len(self.commands)) if broken else None


def left_by(start, commands, image):
    """The contents that an image leaves."""
    words = [list(line) for line in start]
    done = [0] * len(words)
    for command in commands:
        if isinstance(command, Store):
            if done[command.line] < image[command.line]:
                words[command.line][command.word] = command.number
            done[command.line] += 1
    return words


def second_wrong_image(run, layout, contents, slots, commands, made, passed):
    """The first possible image that is not right, and how many images there are."""
    found = heaps(run)
    others = []
    blocks = 0
    for event in run.events:
        if isinstance(event, Block):
            blocks += 1
        else:
            others.append(blocks)
    ordered = images_in_order(commands, len(layout.lines) + slots)
    for image, times in ordered:
        heap = second_recovery(left_by(contents, commands, image), layout, slots)[0]
        least = 0
        for before, time in zip(others, passed):
            if time <= max(times):
                least = before
        most = sum(time <= min(times) for time in made)
        if not any(found[k] == heap for k in range(least, most + 1)):
            return image, len(ordered)
    return None, len(ordered)
