"""Blocks that are done again and again."""

from lastheap.checks import is_from
from lastheap.errors import BadCount, Wide
from lastheap.lines import check_width
from lastheap.ring import check_slots, log_pairs

MOST_BLOCKS = 12
MOST_PLACES = 60
MOST_ROUNDS = 10 ** 30


class RoundLog:
    """The log of blocks that are done in rounds, as far as later fences depend on it.

    There is no sync, out or recovery, so that each fence settles all blocks that are done.
    """

    def __init__(self, lines, slots):
        # For each block of a round the places of each of its log lines.
        self.lines = lines
        self.slots = slots
        # The last log lines, one for each slot that is taken: the number of the block, and its places.
        self.taken = []
        # The numbers of blocks that are done, and that are settled.
        self.done = 0
        self.settled = 0
        # The places of the blocks that the last fence settled; their data stores are not sure.
        self.unsure = {}
        # How many blocks the last fence settled.
        self.fresh = 0
        self.fenced = 0

    def state(self):
        """What the fences of the next rounds depend on, at the beginning of a round."""
        return (len(self.taken), self.done - self.settled, self.fresh)

    def do_round(self):
        for lines in self.lines:
            for places in lines:
                while not self.may_begin():
                    self.fence()
                self.write_line(places)
            self.done += 1

    def write_line(self, places):
        if len(self.taken) == self.slots:
            self.taken.pop(0)
        self.taken.append((self.done, places))

    def may_begin(self):
        """Whether the slot of the next log line is free, or its line is safe."""
        if len(self.taken) < self.slots:
            return True
        block, places = self.taken[0]
        if block >= self.settled:
            return False
        later = self.named_later()
        for place in places:
            if place in self.unsure and place not in later:
                return False
        return True

    def named_later(self):
        """As keys, the places that settled log lines behind the first one name."""
        found = {}
        for block, places in self.taken[1:]:
            if block < self.settled:
                for place in places:
                    found[place] = True
        return found

    def fence(self):
        self.fenced += 1
        self.unsure = {}
        for block in range(self.settled, self.done):
            for places in self.lines[block % len(self.lines)]:
                for place in places:
                    self.unsure[place] = True
        self.fresh = self.done - self.settled
        self.settled = self.done


def fences_of_rounds(blocks, width, slots, rounds):
    """The number of fences if blocks that change these places are done in so many rounds."""
    check_rounds(blocks, width, slots, rounds)
    lines = [places_of_lines(block, width) for block in blocks]
    for one in lines:
        if len(one) > slots:
            raise Wide(len(one))
    log = RoundLog(lines, slots)
    # The numbers of fences before each round, up to a round that begins like an earlier one.
    counts = []
    known = {}
    while len(counts) < rounds and log.state() not in known:
        known[log.state()] = len(counts)
        counts.append(log.fenced)
        log.do_round()
    if len(counts) == rounds:
        return log.fenced
    begun = known[log.state()]
    turns, left = divmod(rounds - begun, len(counts) - begun)
    return counts[begun + left] + turns * (log.fenced - counts[begun])


def check_rounds(blocks, width, slots, rounds):
    if not 1 <= len(blocks) <= MOST_BLOCKS:
        raise BadCount("blocks", len(blocks))
    for index, block in enumerate(blocks):
        if not 1 <= len(block) <= MOST_PLACES:
            raise BadCount("block", index)
    check_width(width)
    check_slots(slots)
    if not is_from(rounds, 0, MOST_ROUNDS):
        raise BadCount("rounds", rounds)


def places_of_lines(block, width):
    """The places that each log line of a block names."""
    lines = log_pairs([(place, 0, 0) for place in block], width)
    return [[place for place, _ in pairs] for pairs in lines]
