"""Programs and a second reading of [30] for tests of sessions and desks."""

from lastheap.images import contents_of, count_images, cut_times, image_at
from lastheap.lines import Store
from lastheap.prefixes import prefix_of
from lastheap.ring import blank
from lastheap.running import Block, plain_run
from lastheap.runtime import translate
from tests.second_memory import second_recovery
from tests.second_rules import left_by

COUNTER = "var x: word; main(n: word) { x = n; x = n + 1; out x; }"
# Puts its argument at the front of a list, or takes the first word off if it is negative.
STACK = """
table node 3 { next: node, value: word }
var head: node;
var count: word;
proc push(v: word) {
    let n = new node;
    atomic { n.value = v; n.next = head; head = n; count = count + 1; }
}
main(v: word) {
    if v < 0 {
        out head.value;
        atomic { head = head.next; count = count - 1; }
    } else {
        push(v);
    }
    sync;
    out count;
}
"""
PAIR = """
var a[3]: word;
var b: word;
main(x: word, y: word) {
    a[0] = x;
    atomic { a[1] = y; b = x + y; a[2] = a[2] + 1; }
    out b;
    a[0] = a[0] / y;
}
"""
IDLE = "main() {}"
TALKER = "main(n: word) { out n; sync; out n + 1; }"
# For each program some arguments.
PROGRAMS = (
    (COUNTER, [(5,), (0,), (-3,), (-1,)]),
    (STACK, [(7,), (8,), (-1,), (0,), (9,)]),
    (PAIR, [(1, 2), (0, 0), (7, -2), (3, 3)]),
    (IDLE, [()]),
    (TALKER, [(1,), (2 ** 59,)]),
)


class SecondSession:
    """The same as a session, kept as a list of plain states."""

    def __init__(self, program, layout, slots):
        self.program = program
        self.layout = layout
        self.slots = slots
        self.states = [(blank(layout, slots), [], None)]

    def now(self):
        return second_recovery(self.states[-1][0], self.layout, self.slots)[0]

    def begin(self, arguments):
        contents, ended, _ = self.states[-1]
        run = plain_run(self.program, self.now(), arguments)
        trace = translate(run, self.layout, contents, self.slots)
        self.states.append((contents, ended, (tuple(arguments), run, trace)))

    def end(self, image, left):
        contents, ended, (arguments, _, trace) = self.states[-1]
        after = left_by(contents, trace.commands, image)
        self.states.append((after, ended + [(arguments, left)], None))

    def whole(self):
        """The image with all stores of the trace under way."""
        trace = self.states[-1][2][2]
        return tuple(
            sum(isinstance(command, Store) and command.line == line for command in trace.commands)
            for line in range(len(self.layout.lines) + self.slots)
        )


def blocks_of(run):
    return [event for event in run.events if isinstance(event, Block)]


def some_image(chance, trace):
    """A possible image, often one at an end of the order or one within the recovery."""
    many = count_images(trace)
    place = chance.choice([0, many - 1, chance.randrange(many), chance.randrange(min(many, 6))])
    return image_at(trace, place)


def possible(trace, image):
    return cut_times(trace, image) is not None


def heap_left(trace, image):
    """The heap to which recovery leads, and how many blocks are left."""
    left = second_recovery(contents_of(trace, image), trace.layout, trace.slots)[0]
    return left, prefix_of(trace, image)
