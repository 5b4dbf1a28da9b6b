"""What tests of runs need."""

from lastheap.heaps import empty_heap
from lastheap.reader import read_program
from lastheap.running import Block, Out, Sync, heaps, plain_run
from tests.helpers import TextCase, unmarked


def ran(text, arguments=(), heap=None):
    """The run of a program's text, from the empty heap if no other one is given."""
    program = read_program(text)
    if heap is None:
        heap = empty_heap(program)
    return plain_run(program, heap, arguments)


def told(run):
    """The events as plain tuples: ("block", changes), ("sync",) and ("out", word)."""
    found = []
    for event in run.events:
        if isinstance(event, Block):
            found.append(("block", event.changes))
        elif isinstance(event, Out):
            found.append(("out", event.word))
        else:
            assert isinstance(event, Sync), event
            found.append(("sync",))
    return found


def outs(run):
    return [event.word for event in run.events if isinstance(event, Out)]


def blocks(run):
    return [event.changes for event in run.events if isinstance(event, Block)]


def stop_of(run):
    if run.stop is None:
        return None
    return (run.stop.word, run.stop.line, run.stop.column)


class RunCase(TextCase):
    def assert_outs(self, expected, text, arguments=(), heap=None):
        run = ran(text, arguments, heap)
        self.assertIsNone(stop_of(run), text)
        self.assertEqual(outs(run), expected, text)

    def assert_blocks(self, expected, text, arguments=(), heap=None):
        """The changes of all blocks of a run that does not stop early."""
        run = ran(text, arguments, heap)
        self.assertIsNone(stop_of(run), text)
        self.assertEqual(blocks(run), [tuple(changes) for changes in expected], text)

    def assert_value(self, expected, expression, arguments=()):
        """What an expression gives, in which `a`, `b` and `c` are arguments."""
        given = tuple(arguments) + (0,) * (3 - len(arguments))
        self.assert_outs([expected], "main(a: word, b: word, c: word) { out " + expression + "; }", given)

    def assert_stop(self, word, marked, arguments=(), heap=None):
        """A run stops at the mark; returns the run."""
        text, place = unmarked(marked)
        run = ran(text, arguments, heap)
        self.assertEqual(stop_of(run), (word, *place), marked)
        return run

    def last_heap(self, text, arguments=(), heap=None):
        return heaps(ran(text, arguments, heap))[-1]
