"""The rules of the log, and commands that may break them."""

from lastheap.lines import Fence, Flush, Store, homes_of, is_there
from lastheap.ring import log_pairs, log_stores
from lastheap.running import Block
from lastheap.runtime import check_blocks, recover_for
from lastheap.watch import Watch


class Broken:
    """A rule, and the number of commands before the one that does not keep it."""

    def __init__(self, rule, time):
        self.rule = rule
        self.time = time

    def __eq__(self, other):
        return isinstance(other, Broken) and self.rule == other.rule and self.time == other.time


class Overseer:
    """Looks at the commands for a run, one after the other.

    Log lines are counted from the run's first one here.
    """

    def __init__(self, run, layout, slots, recovered):
        self.layout = layout
        self.slots = slots
        self.following = recovered.following
        self.homes = homes_of(layout)
        # The places by lines and words.
        self.tenants = {self.homes[place]: place for place in self.homes}
        # All log stores of the run in order; for each log line its pairs, and whether it ends its block.
        self.awaited = []
        self.log = []
        # As keys, for each sync and out, the number of log lines before it.
        self.barriers = {}
        for event in run.events:
            if isinstance(event, Block):
                self.await_block(event.changes)
            else:
                self.barriers[len(self.log)] = True
        self.watch = Watch(len(layout.lines) + slots)
        # How many of the awaited stores are made.
        self.written = 0
        # The first so many log lines are sure, and of these the first so many belong to settled blocks.
        self.sure = 0
        self.settled = 0
        # For each place the last log line of a settled block that names it, and the word there.
        self.named = {}
        # The data stores for each place: the number of stores of its line up to this one, and
        # how many log lines belonged to settled blocks when it was made.
        self.stored = {}
        # The numbers that the recovery stores, by lines and words, and for each that is made
        # the number of stores of its line up to the first such store.
        self.recovery = {(store.line, store.word): store.number for store in recovered.stores}
        self.recovered = {}

    def await_block(self, changes):
        lines = log_pairs(changes, self.layout.width)
        for index, pairs in enumerate(lines):
            last = index == len(lines) - 1
            number = self.following + len(self.log)
            self.awaited.extend(log_stores(self.layout, self.slots, number, self.following, pairs, last))
            self.log.append((pairs, last))

    def broken_by(self, command):
        """The first rule that a command would break now, or None."""
        if not is_there(command, self.layout, self.slots):
            return "line"
        if not isinstance(command, Store):
            return None
        if command.line >= len(self.layout.lines):
            return self.broken_by_log_store(command)
        if self.is_data_store(command) or self.is_recovery_store(command):
            return None
        return "a"

    def broken_by_log_store(self, command):
        if self.written == len(self.awaited) or command != self.awaited[self.written]:
            return "log"
        index, inside = divmod(self.written, self.layout.width + 1)
        if inside > 0:
            return None
        if index >= self.slots and not self.is_safe(index - self.slots):
            return "b"
        if index == 0 and not self.recovery_is_sure():
            return "c"
        if index in self.barriers and self.sure < index:
            return "d"
        return None

    def broken_at_the_end(self):
        """The first rule that is broken if there is no other command, or None."""
        if self.written == 0 and len(self.recovered) < len(self.recovery):
            return "c"
        if self.written < len(self.awaited):
            return "log"
        if max(list(self.barriers), default=0) > self.sure:
            return "d"
        return None

    def is_data_store(self, command):
        place = self.tenants.get((command.line, command.word))
        if place not in self.named:
            return False
        _, word = self.named[place]
        return command.number == word

    def is_recovery_store(self, command):
        return self.written == 0 and self.recovery.get((command.line, command.word)) == command.number

    def recovery_is_sure(self):
        for home in self.recovery:
            line, _ = home
            if home not in self.recovered or self.recovered[home] > self.watch.sure[line]:
                return False
        return True

    def is_safe(self, index):
        """Whether the slot of a log line may be taken."""
        if index >= self.settled:
            return False
        pairs, _ = self.log[index]
        for place, _ in pairs:
            last, _ = self.named[place]
            if last == index and not self.has_sure_data(place, last):
                return False
        return True

    def has_sure_data(self, place, index):
        """Whether a data store is sure that was made when the block of a log line was settled."""
        line, _ = self.homes[place]
        for number, settled in self.stored.get(place, []):
            if number <= self.watch.sure[line] and settled > index:
                return True
        return False

    def do(self, command):
        """Note a command that breaks no rule."""
        self.watch.do(command)
        if isinstance(command, Fence):
            self.settle()
        elif isinstance(command, Store) and command.line >= len(self.layout.lines):
            self.written += 1
        elif isinstance(command, Store):
            self.note_heap_store(command)

    def note_heap_store(self, command):
        home = (command.line, command.word)
        number = self.watch.made[command.line]
        # Nothing is settled before the first log store, so there are no data stores yet.
        if self.written > 0:
            self.stored.setdefault(self.tenants[home], []).append((number, self.settled))
        elif home not in self.recovered:
            self.recovered[home] = number

    def settle(self):
        """Find out what a fence settled, which is done just now."""
        while self.sure < len(self.log) and self.line_is_sure(self.sure):
            _, last = self.log[self.sure]
            self.sure += 1
            if last:
                self.name_up_to(self.sure)

    def line_is_sure(self, index):
        line = len(self.layout.lines) + (self.following + index) % self.slots
        # The log lines before this one in the same slot have as many stores.
        return self.watch.sure[line] >= (index // self.slots + 1) * (self.layout.width + 1)

    def name_up_to(self, end):
        """Note that all log lines before this one belong to settled blocks."""
        for index in range(self.settled, end):
            pairs, _ = self.log[index]
            for place, word in pairs:
                self.named[place] = (index, word)
        self.settled = end


def broken_rule(run, layout, contents, slots, commands):
    """The first rule that commands for a run from these contents break, or None; raises what translate does."""
    recovered = recover_for(run, layout, contents, slots)
    check_blocks(run, layout, slots)
    overseer = Overseer(run, layout, slots, recovered)
    for time, command in enumerate(commands):
        rule = overseer.broken_by(command)
        if rule is not None:
            return Broken(rule, time)
        overseer.do(command)
    rule = overseer.broken_at_the_end()
    if rule is not None:
        return Broken(rule, len(commands))
    return None
