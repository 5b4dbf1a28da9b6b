"""[1]: the whole way of a heap, through runs that are cut again and again, and over to other programs."""

import random
import unittest

from lastheap.desk import Desk
from lastheap.editions import led_over
from lastheap.heaps import empty_heap, places
from lastheap.images import contents_of, count_images, cut_times, image_at
from lastheap.lasttexts import commands_text, read_commands
from lastheap.lines import packed, spread
from lastheap.prefixes import prefix_of, staircase
from lastheap.reader import read_program
from lastheap.recovery import recover
from lastheap.ring import blank
from lastheap.rules import broken_rule
from lastheap.running import Block, Out, Sync, heaps, plain_run
from lastheap.runtime import translate
from lastheap.session import Session
from tests.session_helpers import STACK

# The same list, with records in other places and with one more field, and a sum of all words.
LARGER = """
var count: word;
table node 5 { value: word, weight: word, next: node }
var head: node;
var sum: word;
main(v: word) {
    if v == 0 {
        let n = head;
        atomic {
            sum = 0;
            while n != none max 5 { sum = sum + n.value; n = n.next; }
        }
        out sum;
    } else {
        let n = new node;
        atomic { n.value = v; n.weight = 1; n.next = head; head = n; count = count + 1; }
        sync;
    }
}
"""


def list_of(program, heap):
    """The words in the list that begins at `head`."""
    words = dict(zip(places(program), heap))
    found = []
    at = words[("head",)]
    while at:
        found.append(words[("node", at - 1, "value")])
        at = words[("node", at - 1, "next")]
    assert len(found) == words[("count",)], (found, heap)
    return found


class Memory:
    """A memory that one program after the other runs on."""

    def __init__(self, test, program, layout, slots, heap):
        self.test = test
        self.program = program
        self.layout = layout
        self.slots = slots
        self.contents = [list(line) for line in blank(layout, slots)]
        for line, held in enumerate(layout.lines):
            for word, place in enumerate(held):
                self.contents[line][word] = heap[place]
        test.assertEqual(recover(self.contents, layout, slots).heap, tuple(heap))

    def heap(self):
        return recover(self.contents, self.layout, self.slots).heap

    def run_and_cut(self, chance, arguments):
        """Run the program, and cut it somewhere; returns the run and how many blocks are left."""
        run = plain_run(self.program, self.heap(), arguments)
        trace = translate(run, self.layout, self.contents, self.slots)
        self.test.assertIsNone(broken_rule(run, self.layout, self.contents, self.slots, trace.commands))
        self.test.assertEqual(read_commands(commands_text(trace.commands)), list(trace.commands))
        many = count_images(trace)
        # Often near the beginning, so that recoveries are cut, too.
        place = chance.choice([chance.randrange(many), chance.randrange(min(many, 4)), many - 1])
        image = image_at(trace, place)
        left = prefix_of(trace, image)
        first, last = cut_times(trace, image)
        steps = staircase(trace)
        self.test.assertTrue(steps[last][0] <= left <= steps[first][1])
        self.test.assertGreaterEqual(left, kept_for_sure(run, trace, last))
        self.contents = [list(line) for line in contents_of(trace, image)]
        self.test.assertEqual(self.heap(), heaps(run)[left])
        return run, left


def kept_for_sure(run, trace, last):
    """The number of blocks before the last sync or out that is passed whenever the cut may have been."""
    blocks = 0
    kept = 0
    passed = list(trace.passed)
    for event in run.events:
        if isinstance(event, Block):
            blocks += 1
        elif passed.pop(0) <= last:
            kept = blocks
    return kept


class WholeWayTest(unittest.TestCase):
    def test_a_list_that_moves(self):
        lost = kept = moved = 0
        for seed in range(50):
            chance = random.Random(seed)
            small, large = read_program(STACK), read_program(LARGER)
            slots = chance.choice([4, 5, 9])
            memory = Memory(self, small, packed(small, chance.choice([4, 6])), slots, empty_heap(small))
            expected = []
            for _ in range(12):
                word = chance.choice([-1, 3, 4, 5])
                run, left = memory.run_and_cut(chance, [word])
                if run.stop is None and left == len([one for one in run.events if isinstance(one, Block)]):
                    expected = expected[1:] if word < 0 else [word] + expected
                    kept += 1
                else:
                    lost += 1
                self.assertEqual(list_of(small, memory.heap()), expected)
            heap = led_over(small, large, memory.heap())
            self.assertEqual(list_of(large, heap), expected)
            memory = Memory(self, large, spread(large, chance.choice([4, 8])), 5, heap)
            for _ in range(6):
                word = chance.choice([0, 7, 8])
                run, left = memory.run_and_cut(chance, [word])
                if word and run.stop is None and left == len([one for one in run.events if isinstance(one, Block)]):
                    expected = [word] + expected
                elif word == 0:
                    self.assertEqual(run.events[-1], Out(sum(expected)))
                self.assertEqual(list_of(large, memory.heap()), expected)
            moved += len(expected) > 2
        self.assertGreater(lost, 100)
        self.assertGreater(kept, 100)
        self.assertGreater(moved, 5)

    def test_nothing_of_blocks_that_were_synced_is_lost(self):
        program = read_program(
            "table row 6 { one: word, two: word } var rows[4]: row; var done: word;"
            " proc fill(at: word, n: word) { let r = new row; rows[at] = r;"
            " atomic { r.one = n; r.two = n; } }"
            " main(at: word, n: word) { fill(at, n); fill(3 - at, n + 1); sync; done = done + 1; out done; }"
        )
        synced = 0
        for seed in range(60):
            chance = random.Random(seed)
            session = Session(program, chance.choice([packed, spread])(program, 4), chance.choice([2, 3, 9]))
            for number in range(1, 9):
                run = session.begin([chance.randrange(4), 10 * number])
                trace = session.trace()
                sync = run.events.index(Sync())
                before = len([one for one in run.events[:sync] if isinstance(one, Block)])
                many = count_images(trace)
                image = image_at(trace, chance.choice([chance.randrange(many), many - 1 - chance.randrange(min(many, 40))]))
                _, last = cut_times(trace, image)
                left = session.cut(image)
                if last >= trace.passed[0]:
                    # The cut may have come when the sync was passed.
                    self.assertGreaterEqual(left, before)
                    synced += 1
                self.assertEqual(session.now(), heaps(run)[left])
                if chance.random() < 0.3:
                    session.back()
                    session.finish()
                    self.assertEqual(session.now(), heaps(run)[-1])
                # The two halves of a record belong together, whatever was cut.
                words = session.now()[5:]
                self.assertEqual(words[0::2], words[1::2])
        self.assertGreater(synced, 100)

    def test_a_desk_tells_the_same(self):
        program = read_program(STACK)
        layout = packed(program, 4)
        desk, session = Desk(program, layout, 4), Session(program, layout, 4)
        chance = random.Random(3)
        for word in (5, 6, -1, 7, -1, -1, -1, 8):
            run = session.begin([word])
            outs = [f"out {event.word}" for event in run.events if isinstance(event, Out)]
            found = desk.tell(f"start {word}")
            self.assertEqual(found[1:len(outs) + 1], outs)
            place = chance.randrange(count_images(session.trace()))
            self.assertEqual(desk.tell(f"cut {place}"), [f"left {session.cut(image_at(session.trace(), place))}"])
        self.assertEqual(desk.tell("history"), [f"{word} {left}" for (word,), left in session.history()])


if __name__ == "__main__":
    unittest.main()
