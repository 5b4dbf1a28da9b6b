"""[13]: blocks and events of runs, and the heaps after blocks."""

import unittest

from lastheap.reader import read_program
from lastheap.running import Block, Out, Run, Stop, Sync, heaps, plain_run
from tests.run_helpers import RunCase, blocks, ran, stop_of, told

TWO = "var x: word; var y: word; "


class StoresTest(RunCase):
    def test_each_store_is_a_block(self):
        self.assert_blocks(
            [((0, 0, 5),), ((0, 5, 6),), ((1, 0, 6),)], TWO + "main(n: word) { x = n; x = n + 1; y = x; }", (5,)
        )

    def test_the_word_that_stands_there(self):
        self.assert_blocks([], TWO + "main() { x = 0; y = 0; }")
        self.assert_blocks([((0, 0, 3),), ((0, 3, 0),)], TWO + "main() { x = 3; x = 3; x = x; x = 0; x = 0; }")
        self.assert_blocks([], "table t 1 { f: t } var r: t; main() { r = r; r.f = r; r.f = r.f.f; }", (), (1, 1))

    def test_kinds_of_places(self):
        text = (
            "var x: word; var a[2]: word; table t 2 { f: t, w: word } var r: t; main() { x = 1; a[1] = 2; a[0] = 3;"
            " r.w = 4; r.f = r; r.f.f.w = 5; r = none; }"
        )
        self.assert_blocks(
            [((0, 0, 1),), ((2, 0, 2),), ((1, 0, 3),), ((7, 0, 4),), ((6, 0, 2),), ((7, 4, 5),), ((3, 2, 0),)],
            text, (), (0, 0, 0, 2, 0, 0, 0, 0),
        )

    def test_locals_and_parameters_make_no_blocks(self):
        text = TWO + "proc p(a: word) { a = a + 1; let b = a; b = b + 1; x = b; } main(n: word) { n = 4; p(n); p(x); }"
        self.assert_blocks([((0, 0, 6),), ((0, 6, 8),)], text, (1,))

    def test_locals_of_the_same_name(self):
        text = (
            TWO + "main() { if 1 { let a = 1; x = a; a = 7; } if 1 { let a = 2; x = a; } let a = 3; x = a;"
            " let i = 0; while i < 2 max 2 { let b = x + 1; x = b; i = i + 1; } }"
        )
        self.assert_blocks([((0, 0, 1),), ((0, 1, 2),), ((0, 2, 3),), ((0, 3, 4),), ((0, 4, 5),)], text)


class AtomicTest(RunCase):
    def test_one_block(self):
        self.assert_blocks([((0, 0, 2), (1, 0, 1))], TWO + "main() { atomic { y = 1; x = 2; } }")

    def test_ascending_places(self):
        text = "var a[12]: word; main() { atomic { a[11] = 1; a[2] = 2; a[10] = 3; a[9] = 4; } }"
        self.assert_blocks([((2, 0, 2), (9, 0, 4), (10, 0, 3), (11, 0, 1))], text)

    def test_changed_and_changed_back(self):
        self.assert_blocks([((1, 0, 4),)], TWO + "main() { atomic { x = 1; y = 3; x = 0; y = 4; } }")
        self.assert_blocks([], TWO + "main() { atomic { x = 1; x = 0; } }")
        self.assert_blocks([((0, 7, 8),)], TWO + "main() { atomic { x = 1; x = 8; } }", (), (7, 7))

    def test_reads_see_the_block(self):
        self.assert_blocks([((0, 0, 1), (1, 0, 2))], TWO + "main() { atomic { x = 1; y = x + 1; } }")

    def test_empty(self):
        self.assert_blocks([], TWO + "main() { atomic { } atomic { x = 0; } }")

    def test_inside_of_others(self):
        text = TWO + "proc p(n: word) { atomic { x = n; y = n; } } main() { p(1); if 1 { atomic { x = 3; } } else { }"
        text += " while x < 5 max 9 { atomic { x = x + 1; y = x; } } }"
        self.assert_blocks(
            [((0, 0, 1), (1, 0, 1)), ((0, 1, 3),), ((0, 3, 4), (1, 1, 4)), ((0, 4, 5), (1, 4, 5))], text
        )

    def test_others_inside(self):
        text = (
            TWO + "proc p(n: word) { x = x + n; if n == 2 { y = 9; } q(); } proc q() { x = x * 2; } main() { atomic {"
            " let i = 0; while i < 3 max 3 { p(i); i = i + 1; } } x = 1; }"
        )
        self.assert_blocks([((0, 0, 8), (1, 0, 9)), ((0, 8, 1),)], text)

    def test_stores_behind_it(self):
        self.assert_blocks(
            [((0, 0, 1), (1, 0, 1)), ((0, 1, 2),), ((1, 1, 2),)], TWO + "main() { atomic { x = 1; y = 1; } x = 2; y = 2; }"
        )


class StopInsideTest(RunCase):
    def test_changes_are_taken_back(self):
        run = self.assert_stop("divide", TWO + "main() { x = 1; atomic { x = 2; y = 1 @/ 0; } x = 3; }")
        self.assertEqual(told(run), [("block", ((0, 0, 1),))])
        self.assertEqual(heaps(run), [(0, 0), (1, 0)])

    def test_in_procedures(self):
        text = TWO + "proc p() { x = x + 1; atomic { y = 5; q(); } } proc q() { x = 7; x = 1 @mod 0; } main() { p(); }"
        run = self.assert_stop("divide", text)
        self.assertEqual(told(run), [("block", ((0, 0, 1),))])

    def test_earlier_blocks_of_the_procedure_stay(self):
        text = TWO + "main() { atomic { x = 1; } atomic { x = 2; y = 2; } atomic { x = 3; y = y / (@x - 3); } }"
        run = self.assert_stop("divide", text.replace("y / (@x", "y @/ (x"))
        self.assertEqual(blocks(run), [((0, 0, 1),), ((0, 1, 2), (1, 0, 2))])

    def test_behind_a_new(self):
        text = "table t 1 { w: word } var r: t; main() { r = new t; let k = 1 @/ r.w; }"
        run = self.assert_stop("divide", text, (), (0, 6))
        self.assertEqual(blocks(run), [((1, 6, 0),), ((0, 0, 1),)])
        text = "table t 1 { w: word } var r: t; main() { atomic { r = new t; r.w = 5; let s = new @t; } }"
        run = self.assert_stop("full", text, (), (0, 6))
        self.assertEqual(told(run), [])

    def test_a_value_that_stops(self):
        run = self.assert_stop("none", "table t 1 { f: t } var r: t; main() { let s = new t; s.f = r.@f; }", (), (0, 1))
        self.assertEqual(blocks(run), [((1, 1, 0),)])

    def test_each_reason(self):
        for word, rows in (("steps", "while 1 @max 1000 { x = x + 1; x = x + 1; x = x + 1; x = x + 1; x = x + 1; }"),
                           ("rounds", "@while 1 max 5 { x = x + 1; }"), ("index", "x = 1; out_a[0] = @b[1];"),
                           ("large", "x = 999999999999999999; x = x @+ x;")):
            text = TWO + "var b[1]: word; var out_a[1]: word; main() { y = 4; atomic { " + rows + " } }"
            if word == "steps":
                run = ran(text.replace("@", ""))
                self.assertEqual(stop_of(run)[0], "steps")
            else:
                run = self.assert_stop(word, text)
            self.assertEqual(told(run), [("block", ((1, 0, 4),))])


class EventsTest(RunCase):
    def test_in_their_order(self):
        text = TWO + "main() { sync; x = 1; out x; out x + 1; atomic { x = 2; y = 2; } sync; sync; x = 2; out y; x = 0; }"
        self.assertEqual(
            told(ran(text)),
            [("sync",), ("block", ((0, 0, 1),)), ("out", 1), ("out", 2), ("block", ((0, 1, 2), (1, 0, 2))), ("sync",),
             ("sync",), ("out", 2), ("block", ((0, 2, 0),))],
        )

    def test_in_procedures(self):
        text = TWO + "proc p(n: word) { out n; x = n; sync; } main() { p(3); p(4); }"
        self.assertEqual(
            told(ran(text)),
            [("out", 3), ("block", ((0, 0, 3),)), ("sync",), ("out", 4), ("block", ((0, 3, 4),)), ("sync",)],
        )

    def test_no_events(self):
        run = ran("main() { }")
        self.assertEqual((run.start, run.events, run.stop), ((), (), None))

    def test_kinds_of_what_is_returned(self):
        run = ran(TWO + "main() { atomic { x = 1; y = 2; } }", (), [7, 8])
        self.assertIs(type(run.start), tuple)
        self.assertIs(type(run.events), tuple)
        self.assertIs(type(run.events[0].changes), tuple)
        self.assertEqual([type(change) for change in run.events[0].changes], [tuple, tuple])

    def test_equal_calls(self):
        program = read_program(TWO + "main(n: word) { x = n; sync; out 3; y = 1 / 0; }")
        self.assertEqual(plain_run(program, [1, 2], [3]), plain_run(program, (1, 2), (3,)))
        self.assertNotEqual(plain_run(program, [1, 2], [3]), plain_run(program, (1, 2), (4,)))
        self.assertNotEqual(plain_run(program, [1, 2], [3]), plain_run(program, (1, 1), (3,)))


class HeapsTest(unittest.TestCase):
    def test_made_by_hand(self):
        run = Run([0, 5, 0], [Block([[0, 0, 1], [1, 5, 6]]), Sync(), Out(3), Block([(2, 0, -4)]), Block(((0, 1, 0),))], None)
        self.assertEqual(heaps(run), [(0, 5, 0), (1, 6, 0), (1, 6, -4), (0, 6, -4)])
        self.assertEqual(heaps(run=run), heaps(run))

    def test_large_words(self):
        run = Run((10 ** 30,), (Block([(0, 10 ** 30, -(10 ** 40))]),), None)
        self.assertEqual(heaps(run), [(10 ** 30,), (-(10 ** 40),)])

    def test_without_blocks(self):
        self.assertEqual(heaps(Run((), (), None)), [()])
        self.assertEqual(heaps(Run([3], [Sync(), Out(1)], Stop("steps", 1, 1))), [(3,)])

    def test_kinds_of_what_is_returned(self):
        found = heaps(Run([3], [Block([[0, 3, 4]])], None))
        self.assertIs(type(found), list)
        self.assertEqual([type(heap) for heap in found], [tuple, tuple])

    def test_nothing_changes(self):
        run = Run([3], [Block([[0, 3, 4]])], None)
        heaps(run).append(5)
        self.assertEqual(heaps(run), [(3,), (4,)])
        self.assertEqual(run, Run([3], [Block([[0, 3, 4]])], None))


class ThingsTest(unittest.TestCase):
    def test_fields(self):
        self.assertEqual(Block([[0, 1, 2], (3, 4, 5)]).changes, ((0, 1, 2), (3, 4, 5)))
        self.assertEqual(Block(changes=[]).changes, ())
        self.assertEqual(Out(5).word, 5)
        self.assertEqual(Out(word=-5).word, -5)
        stop = Stop("full", line=3, column=4)
        self.assertEqual((stop.word, stop.line, stop.column), ("full", 3, 4))
        run = Run([1, 2], [Sync()], stop)
        self.assertEqual((run.start, run.events, run.stop), ((1, 2), (Sync(),), stop))
        self.assertEqual(Run(stop=None, events=(), start=()), Run([], [], None))

    def test_later_changes_have_no_effect(self):
        change = [0, 1, 2]
        changes = [change]
        block = Block(changes)
        change[2] = 9
        changes.append([1, 1, 1])
        self.assertEqual(block, Block([(0, 1, 2)]))
        start, events = [1], [block]
        run = Run(start, events, None)
        start[0] = 2
        events.append(Sync())
        self.assertEqual(run, Run((1,), (block,), None))

    def test_kinds_of_fields(self):
        block = Block([[0, 1, 2]])
        self.assertEqual((type(block.changes), type(block.changes[0])), (tuple, tuple))
        run = Run([1], [block], None)
        self.assertEqual((type(run.start), type(run.events)), (tuple, tuple))

    def test_equality(self):
        made = (
            lambda: Block([(0, 1, 2)]), lambda: Block([(0, 1, 3)]), lambda: Block([]), lambda: Block([(0, 1, 2)] * 2),
            lambda: Sync(), lambda: Out(1), lambda: Out(2),
            lambda: Stop("none", 1, 2), lambda: Stop("none", 2, 2), lambda: Stop("none", 1, 1), lambda: Stop("full", 1, 2),
            lambda: Run((0,), (), None), lambda: Run((1,), (), None), lambda: Run((0,), (Sync(),), None),
            lambda: Run((0,), (Out(1),), None), lambda: Run((0,), (), Stop("none", 1, 2)),
            lambda: Run((0,), (), Stop("none", 1, 3)),
        )
        for index, left in enumerate(made):
            for other, right in enumerate(made):
                self.assertIs(left() == right(), index == other)
                self.assertIs(left() != right(), index != other)
            for strange in (None, 1, (), ((0, 1, 2),), "none", (0,)):
                self.assertFalse(left() == strange)
                self.assertFalse(strange == left())


if __name__ == "__main__":
    unittest.main()
