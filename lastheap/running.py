"""Runs of programs, and what happens in them."""

from lastheap.checks import is_from
from lastheap.errors import BadCount
from lastheap.heaps import LARGEST, check_heap
from lastheap.machine import Halted, Machine
from lastheap.sites import sites_of


class Block:
    """The changes (place, old, new) that were made at once."""

    def __init__(self, changes):
        self.changes = tuple([tuple(change) for change in changes])

    def __eq__(self, other):
        return isinstance(other, Block) and self.changes == other.changes


class Sync:
    """What was done before must last."""

    def __eq__(self, other):
        return isinstance(other, Sync)


class Out:
    """A word that the run tells."""

    def __init__(self, word):
        self.word = word

    def __eq__(self, other):
        return isinstance(other, Out) and self.word == other.word


class Stop:
    """Why a run stopped early, as one word, and the place in the text."""

    def __init__(self, word, line, column):
        self.word = word
        self.line = line
        self.column = column

    def __eq__(self, other):
        return (
            isinstance(other, Stop)
            and self.word == other.word
            and self.line == other.line
            and self.column == other.column
        )


class Run:
    """A heap, the events from there in order, and a Stop or None."""

    def __init__(self, start, events, stop):
        self.start = tuple(start)
        self.events = tuple(events)
        self.stop = stop

    def __eq__(self, other):
        return (
            isinstance(other, Run)
            and self.start == other.start
            and self.events == other.events
            and self.stop == other.stop
        )


def plain_run(program, heap, arguments):
    """Run `main` from a heap; raises Faulty, Misfit and BadCount."""
    sites = sites_of(program)
    check_heap(sites, heap)
    check_arguments(program.main, arguments)
    machine = Machine(program, sites, heap, arguments)
    stop = None
    try:
        machine.go_on()
    except Halted as halted:
        stop = Stop(halted.reason, halted.word.line, halted.word.column)
    return Run(heap, [event_of(act, told) for act, told in machine.events], stop)


def check_arguments(main, arguments):
    if len(arguments) != len(main.parameters):
        raise BadCount("arguments", len(arguments))
    for index, argument in enumerate(arguments):
        if not is_from(argument, -LARGEST, LARGEST):
            raise BadCount("argument", index)


def event_of(act, told):
    """The event that a machine tells with these words."""
    if act == "block":
        return Block(told)
    if act == "out":
        return Out(told)
    return Sync()


def blocks_of(run):
    """The blocks of a run, in order."""
    return [event for event in run.events if isinstance(event, Block)]


def heaps(run):
    """The heaps after the first 0, 1, 2 and so on blocks."""
    heap = list(run.start)
    found = [tuple(heap)]
    for block in blocks_of(run):
        for place, _, new in block.changes:
            heap[place] = new
        found.append(tuple(heap))
    return found
