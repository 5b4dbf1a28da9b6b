"""Translating runs into commands for a memory."""

from lastheap.errors import Other, Wide
from lastheap.lines import Fence, Flush, check_layout, homes_of, stores_of
from lastheap.recovery import recover
from lastheap.ring import log_pairs, log_stores
from lastheap.running import Block, blocks_of


class Trace:
    """The commands of a run, the contents before them, and when and why things were done."""

    def __init__(self, layout, slots, start, commands, made, passed, reasons, first):
        self.layout = layout
        self.slots = slots
        self.start = tuple([tuple(line) for line in start])
        self.commands = tuple(commands)
        self.made = tuple(made)
        self.passed = tuple(passed)
        self.reasons = tuple([tuple(reason) for reason in reasons])
        self.first = first

    def __eq__(self, other):
        return (
            isinstance(other, Trace)
            and self.layout == other.layout
            and self.slots == other.slots
            and self.start == other.start
            and self.commands == other.commands
            and self.made == other.made
            and self.passed == other.passed
            and self.reasons == other.reasons
            and self.first == other.first
        )


class Runtime:
    """Makes the commands of a run, one event after the other.

    Log lines are counted from the run's first one here.
    """

    def __init__(self, layout, slots, first):
        self.layout = layout
        self.slots = slots
        self.first = first
        self.homes = homes_of(layout)
        self.commands = []
        self.made = []
        self.passed = []
        self.reasons = []
        # For each log line its block and the places that it names.
        self.written = []
        # For each block that is made its changes; the first ones are settled.
        self.blocks = []
        self.settled = 0
        # For each place the last log line of a settled block that names it.
        self.last_named = {}
        # As keys: lines with stores, and places with data stores, that are not sure.
        self.unsure_lines = {}
        self.unsure_places = {}

    def do_stores(self, stores):
        for store in stores:
            self.commands.append(store)
            self.unsure_lines[store.line] = True

    def do_block(self, changes):
        lines = log_pairs(changes, self.layout.width)
        for index, pairs in enumerate(lines):
            while not self.may_begin():
                self.fence(("line", self.first + len(self.written)))
            self.write_line(pairs, index == len(lines) - 1)
        self.blocks.append(changes)
        self.made.append(len(self.commands))

    def do_other(self, index):
        """Pass a sync or out, which is the event with this index."""
        while not self.log_is_sure():
            self.fence(("event", index))
        self.passed.append(len(self.commands))

    def write_line(self, pairs, last):
        number = self.first + len(self.written)
        self.do_stores(log_stores(self.layout, self.slots, number, self.first, pairs, last))
        self.written.append((len(self.blocks), [place for place, _ in pairs]))

    def may_begin(self):
        """Whether rules (b) and (c) let the next log line begin."""
        if not self.written:
            return not self.unsure_lines
        index = len(self.written) - self.slots
        return index < 0 or self.is_safe(index)

    def is_safe(self, index):
        """Whether the slot of a log line may be taken."""
        block, places = self.written[index]
        if block >= self.settled:
            return False
        for place in places:
            if self.last_named[place] == index and place in self.unsure_places:
                return False
        return True

    def log_is_sure(self):
        for line in self.unsure_lines:
            if line >= len(self.layout.lines):
                return False
        return True

    def fence(self, reason):
        for line in sorted(self.unsure_lines):
            self.commands.append(Flush(line))
        self.commands.append(Fence())
        self.reasons.append(reason)
        self.unsure_lines = {}
        self.settle()

    def settle(self):
        """Make the data stores of all blocks that a fence settled, which is done just now."""
        words = {}
        for changes in self.blocks[self.settled:]:
            for place, _, new in changes:
                words[place] = new
        self.settled = len(self.blocks)
        for index, (block, places) in enumerate(self.written):
            if block < self.settled:
                for place in places:
                    self.last_named[place] = index
        self.do_stores(stores_of(words, self.homes))
        self.unsure_places = {place: True for place in words}


def translate(run, layout, contents, slots):
    """The trace of a run from these contents; raises Misfit, BadCount, Shape, Other and Wide."""
    recovered = recover_for(run, layout, contents, slots)
    check_blocks(run, layout, slots)
    runtime = Runtime(layout, slots, recovered.following)
    runtime.do_stores(recovered.stores)
    for index, event in enumerate(run.events):
        if isinstance(event, Block):
            runtime.do_block(event.changes)
        else:
            runtime.do_other(index)
    return Trace(
        layout, slots, contents, runtime.commands, runtime.made, runtime.passed, runtime.reasons, runtime.first
    )


def recover_for(run, layout, contents, slots):
    """What the contents mean, which must be the run's start; raises all errors of translate but Wide."""
    check_layout(layout, len(run.start))
    recovered = recover(contents, layout, slots)
    check_start(recovered.heap, run.start)
    return recovered


def check_start(heap, start):
    for place, word in enumerate(start):
        if heap[place] != word:
            raise Other(place)


def check_blocks(run, layout, slots):
    """Raise Wide for the first block that needs more log lines than there are slots."""
    for many in lines_needed(run, layout):
        if many > slots:
            raise Wide(many)


def lines_needed(run, layout):
    """For each block the number of its log lines."""
    return [len(log_pairs(block.changes, layout.width)) for block in blocks_of(run)]
