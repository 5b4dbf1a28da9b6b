"""Translating runs into commands for a memory."""

from lastheap.errors import Misfit, Other, Wide
from lastheap.lines import Fence, Flush, Store, homes_of
from lastheap.recovery import recover
from lastheap.ring import complete_head, line_words, log_pairs
from lastheap.running import Block, blocks_of


class Trace:
    """The commands of a run, the contents before them, and when and why things were done."""

    def __init__(self, layout, slots, start, commands, made, passed, reasons, first):
        self.layout = layout
        self.slots = slots
        self.start = tuple([tuple(line) for line in start])
        self.commands = tuple(commands)
        self.made = tuple(made)
        self.passed = tuple(passed)
        self.reasons = tuple([tuple(reason) for reason in reasons])
        self.first = first

    def __eq__(self, other):
        return (
            isinstance(other, Trace)
            and self.layout == other.layout
            and self.slots == other.slots
            and self.start == other.start
            and self.commands == other.commands
            and self.made == other.made
            and self.passed == other.passed
            and self.reasons == other.reasons
            and self.first == other.first
        )


class Runtime:
    """Makes the commands of a run, one event after the other.

    Log lines are counted from the run's first one here.
    """

    def __init__(self, layout, slots, first):
        self.layout = layout
        self.slots = slots
        self.first = first
        self.homes = homes_of(layout)
        self.commands = []
        self.made = []
        self.passed = []
        self.reasons = []
        # For each log line its block and the places that it names.
        self.written = []
        # For each block that is made its changes; the first ones are settled.
        self.blocks = []
        self.settled = 0
        # For each place the last log line of a settled block that names it.
        self.last_named = {}
        # As keys: lines with stores, and places with data stores, that are not sure.
        self.unsure_lines = {}
        self.unsure_places = {}

    def store(self, line, word, number):
        self.commands.append(Store(line, word, number))
        self.unsure_lines[line] = True

    def do_recovery(self, stores):
        for store in stores:
            self.store(store.line, store.word, store.number)

    def do_block(self, changes):
        lines = log_pairs(changes, self.layout.width)
        for index, pairs in enumerate(lines):
            while not self.may_begin():
                self.fence(("line", self.first + len(self.written)))
            self.write_line(pairs, index == len(lines) - 1)
        self.blocks.append(changes)
        self.made.append(len(self.commands))

    def do_other(self, index):
        """Pass a sync or out, which is the event with this index."""
        while not self.log_is_sure():
            self.fence(("event", index))
        self.passed.append(len(self.commands))

    def write_line(self, pairs, last):
        number = self.first + len(self.written)
        line = len(self.layout.lines) + number % self.slots
        head = complete_head(number, self.first)
        words = line_words(head, last, pairs, self.layout.width)
        self.store(line, 0, -head)
        for word in range(1, self.layout.width):
            self.store(line, word, words[word])
        self.store(line, 0, head)
        self.written.append((len(self.blocks), [place for place, _ in pairs]))

    def may_begin(self):
        """Whether rules (b) and (c) let the next log line begin."""
        if not self.written:
            return not self.unsure_lines
        index = len(self.written) - self.slots
        return index < 0 or self.is_safe(index)

    def is_safe(self, index):
        """Whether the slot of a log line may be taken."""
        block, places = self.written[index]
        if block >= self.settled:
            return False
        for place in places:
            if self.last_named[place] == index and place in self.unsure_places:
                return False
        return True

    def log_is_sure(self):
        for line in self.unsure_lines:
            if line >= len(self.layout.lines):
                return False
        return True

    def fence(self, reason):
        for line in sorted(self.unsure_lines):
            self.commands.append(Flush(line))
        self.commands.append(Fence())
        self.reasons.append(reason)
        self.unsure_lines = {}
        self.unsure_places = {}
        self.settle()

    def settle(self):
        """Make the data stores of all blocks that a fence settled, which is done just now."""
        words = {}
        for changes in self.blocks[self.settled:]:
            for place, _, new in changes:
                words[place] = new
        self.settled = len(self.blocks)
        for index, (block, places) in enumerate(self.written):
            if block < self.settled:
                for place in places:
                    self.last_named[place] = index
        for place in sorted(words):
            line, word = self.homes[place]
            self.store(line, word, words[place])
            self.unsure_places[place] = True


def translate(run, layout, contents, slots):
    """The trace of a run from these contents; raises Misfit, BadCount, Shape, Other and Wide."""
    check_layout(run, layout)
    recovered = recover(contents, layout, slots)
    check_start(recovered.heap, run.start)
    check_blocks(run, layout, slots)
    runtime = Runtime(layout, slots, recovered.following)
    runtime.do_recovery(recovered.stores)
    for index, event in enumerate(run.events):
        if isinstance(event, Block):
            runtime.do_block(event.changes)
        else:
            runtime.do_other(index)
    return Trace(
        layout, slots, contents, runtime.commands, runtime.made, runtime.passed, runtime.reasons, runtime.first
    )


def check_layout(run, layout):
    """Raise Misfit unless the layout has just the places of the run's heap."""
    many = sum([len(line) for line in layout.lines])
    if many != len(run.start):
        raise Misfit(min(many, len(run.start)))


def check_start(heap, start):
    for place, word in enumerate(start):
        if heap[place] != word:
            raise Other(place)


def check_blocks(run, layout, slots):
    """Raise Wide for the first block that needs more log lines than there are slots."""
    for block in blocks_of(run):
        many = len(log_pairs(block.changes, layout.width))
        if many > slots:
            raise Wide(many)
