"""The examples of the document."""

import unittest

from lastheap.desk import Desk
from lastheap.errors import Idle, Malformed, Wide
from lastheap.heaps import places
from lastheap.images import contents_of, count_images
from lastheap.judging import judge
from lastheap.lasttexts import commands_text
from lastheap.lines import Fence, Flush, Layout, Store, packed
from lastheap.prefixes import count_by_prefix, staircase
from lastheap.printer import program_text
from lastheap.reader import read_program
from lastheap.recovery import recover
from lastheap.ring import blank, log_pairs
from lastheap.rounds import fences_of_rounds
from lastheap.rules import broken_rule
from lastheap.running import Block, Run, Sync, heaps, plain_run
from lastheap.runs import fences, joined, smallest_ring
from lastheap.runtime import translate
from lastheap.session import Session


class TextsTest(unittest.TestCase):
    def test_program_text(self):
        self.assertEqual(program_text(read_program("main(){}")), "main() {\n}")

    def test_malformed(self):
        with self.assertRaises(Malformed) as caught:
            read_program("main( {}")
        self.assertEqual((caught.exception.line, caught.exception.column), (1, 7))

    def test_judge(self):
        fault = judge(read_program("var x: word; main() { x = none; }"))
        self.assertEqual((fault.word, fault.line, fault.column), ("kind", 1, 27))


class RunsTest(unittest.TestCase):
    def test_places(self):
        found = places(read_program("var a[2]: word; table node 1 { next: node } main() {}"))
        self.assertEqual(found, [("a", 0), ("a", 1), ("node", 0, "next")])

    def test_stores(self):
        program = read_program("var x: word; main(n: word) { x = n; x = n + 1; out x; }")
        self.assertEqual(heaps(plain_run(program, (0,), [5])), [(0,), (5,), (6,)])

    def test_atomic(self):
        program = read_program("var x: word; var y: word; main() { atomic { x = 1; y = 2; } }")
        self.assertEqual(heaps(plain_run(program, (0, 0), [])), [(0, 0), (1, 2)])

    def test_stop(self):
        program = read_program("var x: word; main() { x = 1; out 1 / 0; }")
        stop = plain_run(program, (0,), []).stop
        self.assertEqual((stop.word, stop.line, stop.column), ("divide", 1, 36))

    def test_new(self):
        program = read_program(
            "table node 2 { next: node, value: word } var head: node;"
            " main() { let n = new node; n.value = 7; n.next = head; head = n; }"
        )
        found = heaps(plain_run(program, (0, 0, 0, 0, 0), []))
        self.assertEqual(found, [(0, 0, 0, 0, 0), (0, 0, 7, 0, 0), (1, 0, 7, 0, 0)])

    def test_log_pairs(self):
        self.assertEqual(log_pairs([(0, 0, 5), (1, 0, 6)], 4), [[(0, 5)], [(1, 6)]])


class MemoryTest(unittest.TestCase):
    LAYOUT = Layout(4, [[0]])

    def translated(self, *events):
        return translate(Run((0,), events, None), self.LAYOUT, blank(self.LAYOUT, 2), 2)

    def test_commands(self):
        trace = self.translated(Block([(0, 0, 5)]))
        expected = (Store(1, 0, -1), Store(1, 1, 1), Store(1, 2, 0), Store(1, 3, 5), Store(1, 0, 1))
        self.assertEqual(trace.commands, expected)

    def test_texts_of_commands(self):
        commands = self.translated(Block([(0, 0, 5)])).commands
        text = "store 1 0 -1, store 1 1 1, store 1 2 0, store 1 3 5, store 1 0 1"
        self.assertEqual(commands_text(commands), text)
        commands = self.translated(Block([(0, 0, 5)]), Sync()).commands
        self.assertEqual(commands_text(commands[5:]), "flush 1, fence, store 0 0 5")

    def test_sync(self):
        trace = self.translated(Block([(0, 0, 5)]), Sync())
        self.assertEqual(trace.commands[5:], (Flush(1), Fence(), Store(0, 0, 5)))
        self.assertEqual((trace.made, trace.passed, trace.reasons), ((5,), (8,), (("event", 1),)))
        self.assertEqual(
            staircase(trace), [(0, 0), (0, 0), (0, 0), (0, 0), (0, 0), (0, 1), (0, 1), (1, 1), (1, 1)]
        )

    def test_images(self):
        trace = self.translated(Block([(0, 0, 5)]))
        first = recover(contents_of(trace, (0, 4, 0)), self.LAYOUT, 2)
        last = recover(contents_of(trace, (0, 5, 0)), self.LAYOUT, 2)
        found = (first.heap, first.following, last.heap, last.applied, count_images(trace), count_by_prefix(trace))
        self.assertEqual(found, ((0,), 1, (5,), 1, 6, [5, 1]))

    def test_broken_rule(self):
        run = Run((0,), [Block([(0, 0, 5)])], None)
        commands = list(self.translated(*run.events).commands)
        broken = broken_rule(run, self.LAYOUT, blank(self.LAYOUT, 2), 2, commands + [Store(0, 0, 5)])
        self.assertEqual((broken.rule, broken.time), ("a", 5))


class MoreAboutRunsTest(unittest.TestCase):
    def test_fences(self):
        run = Run((0, 0, 0, 0, 0), [Block([(place, 0, 1)]) for place in range(5)], None)
        layout = Layout(4, [[0, 1, 2, 3], [4]])
        self.assertEqual((fences(run, layout, 2), fences(run, layout, 4), smallest_ring(run, layout, 0)), (4, 2, 5))

    def test_joined(self):
        run = Run((0, 0), [Block([(0, 0, 1)]), Block([(1, 0, 2)]), Block([(0, 1, 0)])], None)
        self.assertEqual(heaps(joined(run, [1, 2])), [(0, 0), (1, 0), (0, 2)])

    def test_rounds(self):
        found = (fences_of_rounds([[0]], 4, 2, 10), fences_of_rounds([[0]], 4, 3, 10 ** 30))
        self.assertEqual(found, (8, 499999999999999999999999999999))
        with self.assertRaises(Wide) as caught:
            fences_of_rounds([[0, 1]], 4, 1, 5)
        self.assertEqual(caught.exception.count, 2)


class SessionsTest(unittest.TestCase):
    PROGRAM = read_program("var x: word; main(n: word) { x = n; x = n + 1; out x; }")

    def test_session(self):
        session = Session(self.PROGRAM, packed(self.PROGRAM, 4), 2)
        session.begin([5])
        left = session.cut((0, 5, 3))
        self.assertEqual((left, session.now(), session.history()), (1, (5,), [((5,), 1)]))

    def test_idle(self):
        with self.assertRaises(Idle):
            Session(self.PROGRAM, packed(self.PROGRAM, 4), 2).trace()

    def test_desk(self):
        desk = Desk(self.PROGRAM, packed(self.PROGRAM, 4), 2)
        self.assertEqual(desk.tell("start 5"), ["run 2", "out 6"])
        desk.tell("finish")
        self.assertEqual(desk.tell("heap"), ["x=6"])


if __name__ == "__main__":
    unittest.main()
