"""[17] to [19]: translated runs."""

import random
import unittest

from lastheap.errors import BadCount, Misfit, Other, Shape, Wide
from lastheap.lines import Fence, Flush, Layout, Store
from lastheap.recovery import recover
from lastheap.ring import blank
from lastheap.running import Block, Out, Run, Sync
from lastheap.runtime import Trace, translate
from tests.memory_helpers import HEAD, log_line, plain, random_cut, random_layout, random_run
from tests.second_memory import SecondRuntime

NO_SLOTS = (0, 10, -1, 10 ** 20, True, False, None, "2", 2.0, (2,))


def written(line, number, first, mark, *pairs, width=4):
    """The stores of a log line that stands in this line of the memory, as tuples."""
    words = log_line(width, number, first, mark, *pairs)
    return (
        [("store", line, 0, -words[0])]
        + [("store", line, word, words[word]) for word in range(1, width)]
        + [("store", line, 0, words[0])]
    )


def fence(*lines):
    return [("flush", line) for line in lines] + [("fence",)]


def store(line, word, number):
    return [("store", line, word, number)]


class TraceCase(unittest.TestCase):
    def assert_trace(self, trace, commands, made=None, passed=None, reasons=None, first=None):
        self.assertEqual([plain(command) for command in trace.commands], sum(commands, []))
        for found, expected in (
            (trace.made, made), (trace.passed, passed), (trace.reasons, reasons), (trace.first, first)
        ):
            if expected is not None:
                self.assertEqual(found, expected)


class RuntimeTest(TraceCase):
    """One line with the places 0 to 2; in the fourth word stands nothing."""

    LAYOUT = Layout(4, [[2, 0, 1]])

    def translated(self, slots, *events, start=(0, 0, 0), contents=None):
        return translate(Run(start, events, None), self.LAYOUT, contents or blank(self.LAYOUT, slots), slots)

    def test_no_event(self):
        trace = self.translated(2)
        self.assert_trace(trace, [], (), (), (), 0)
        self.assertEqual(trace, Trace(self.LAYOUT, 2, blank(self.LAYOUT, 2), (), (), (), (), 0))

    def test_syncs_and_outs_alone(self):
        trace = self.translated(2, Sync(), Out(5), Sync())
        self.assert_trace(trace, [], (), (0, 0, 0), (), 0)

    def test_one_block(self):
        trace = self.translated(2, Block([(0, 0, 5)]))
        self.assert_trace(trace, [written(1, 0, 0, 1, (0, 5))], (5,), (), (), 0)

    def test_empty_pairs(self):
        layout = Layout(8, [[0, 1, 2, 3]])
        run = Run((0, 0, 0, 0), [Block([(1, 0, 5), (3, 0, -6)])], None)
        trace = translate(run, layout, blank(layout, 1), 1)
        numbers = [-1, 1, 1, 5, 3, -6, -1, 0, 1]
        self.assertEqual([command.number for command in trace.commands], numbers)
        self.assertEqual([command.word for command in trace.commands], [0, 1, 2, 3, 4, 5, 6, 7, 0])
        self.assertEqual({command.line for command in trace.commands}, {1})

    def test_a_block_of_several_log_lines(self):
        trace = self.translated(3, Block([(0, 0, 5), (1, 0, 6), (2, 0, 7)]))
        self.assert_trace(
            trace,
            [written(1, 0, 0, 0, (0, 5)), written(2, 1, 0, 0, (1, 6)), written(3, 2, 0, 1, (2, 7))],
            (15,), (), (), 0,
        )

    def test_a_sync(self):
        trace = self.translated(2, Block([(0, 0, 5)]), Sync(), Sync(), Block([(0, 5, 6)]))
        self.assert_trace(
            trace,
            [written(1, 0, 0, 1, (0, 5)), fence(1), store(0, 1, 5), written(2, 1, 0, 1, (0, 6))],
            (5, 13), (8, 8), (("event", 1),), 0,
        )

    def test_an_out(self):
        trace = self.translated(2, Out(1), Block([(0, 0, 5), (2, 0, 7)]), Out(2))
        self.assert_trace(
            trace,
            [written(1, 0, 0, 0, (0, 5)), written(2, 1, 0, 1, (2, 7)), fence(1, 2), store(0, 1, 5), store(0, 0, 7)],
            (10,), (0, 15), (("event", 2),), 0,
        )

    def test_a_ring_of_one(self):
        trace = self.translated(1, Block([(0, 0, 5)]), Block([(1, 0, 6)]))
        self.assert_trace(
            trace,
            [written(1, 0, 0, 1, (0, 5)), fence(1), store(0, 1, 5), fence(0), written(1, 1, 0, 1, (1, 6))],
            (5, 15), (), (("line", 1), ("line", 1)), 0,
        )

    def test_a_place_that_comes_again(self):
        # Line 0 is safe when line 1, which names the same place, is settled, too.
        trace = self.translated(2, Block([(0, 0, 5)]), Block([(0, 5, 6)]), Block([(0, 6, 7)]), Block([(0, 7, 8)]))
        self.assert_trace(
            trace,
            [
                written(1, 0, 0, 1, (0, 5)), written(2, 1, 0, 1, (0, 6)), fence(1, 2), store(0, 1, 6),
                written(1, 2, 0, 1, (0, 7)), fence(0, 1), store(0, 1, 7), written(2, 3, 0, 1, (0, 8)),
            ],
            (5, 10, 19, 28), (), (("line", 2), ("line", 3)), 0,
        )

    def test_data_stores_are_ascending(self):
        trace = self.translated(
            3, Block([(2, 0, 1)]), Block([(0, 0, 2), (1, 0, 3)]), Sync(), start=(0, 0, 0)
        )
        self.assert_trace(
            trace,
            [
                written(1, 0, 0, 1, (2, 1)), written(2, 1, 0, 0, (0, 2)), written(3, 2, 0, 1, (1, 3)), fence(1, 2, 3),
                store(0, 1, 2), store(0, 2, 3), store(0, 0, 1),
            ],
        )

    def test_the_last_word_is_stored(self):
        trace = self.translated(3, Block([(0, 0, 1)]), Block([(1, 0, 9)]), Block([(0, 1, 0)]), Sync())
        self.assertEqual([plain(command) for command in trace.commands[-2:]], store(0, 1, 0) + store(0, 2, 9))

    def test_a_fence_inside_of_a_block(self):
        # The second block needs two lines; its first one is sure before the block is settled.
        trace = self.translated(2, Block([(0, 0, 1)]), Block([(1, 0, 2), (2, 0, 3)]), Sync())
        self.assert_trace(
            trace,
            [
                written(1, 0, 0, 1, (0, 1)), written(2, 1, 0, 0, (1, 2)), fence(1, 2), store(0, 1, 1), fence(0),
                written(1, 2, 0, 1, (2, 3)), fence(1), store(0, 2, 2), store(0, 0, 3),
            ],
            (5, 21), (25,), (("line", 2), ("line", 2), ("event", 2)), 0,
        )

    def test_numbers_of_fences(self):
        layout = Layout(4, [[place] for place in range(24)])
        for slots in range(1, 10):
            for many in (0, 1, 2, 3, slots, slots + 1, 2 * slots, 2 * slots + 1, 24):
                blocks = [Block([(place, 0, 1)]) for place in range(min(many, 24))]
                trace = translate(Run((0,) * 24, blocks, None), layout, blank(layout, slots), slots)
                fences = sum(command == Fence() for command in trace.commands)
                self.assertEqual(fences, 2 * ((len(blocks) - 1) // slots) if blocks else 0)
                self.assertEqual(len(trace.reasons), fences)


class AfterRecoveryTest(TraceCase):
    """Slot 0 tells line 4, and slot 1 perhaps line 5, both of a run from line 4 on."""

    LAYOUT = Layout(4, [[0], [1]])

    def contents(self, *pairs):
        lines = [log_line(4, 4 + at, 4, 1, pair) for at, pair in enumerate(pairs)]
        return [[0] * 4, [0] * 4] + lines + [[0] * 4] * (2 - len(lines))

    def translated(self, contents, start, *events):
        return translate(Run(start, events, None), self.LAYOUT, contents, 2)

    def test_the_stores_come_first(self):
        trace = self.translated(self.contents((1, 8), (0, 7)), (7, 8))
        self.assert_trace(trace, [store(0, 0, 7), store(1, 0, 8)], (), (), (), 6)

    def test_a_sync_does_not_wait_for_them(self):
        trace = self.translated(self.contents((1, 8)), (0, 8), Sync(), Out(3))
        self.assert_trace(trace, [store(1, 0, 8)], (), (1, 1), (), 5)

    def test_the_first_log_line_waits_for_them(self):
        trace = self.translated(self.contents((1, 8)), (0, 8), Sync(), Block([(0, 0, 3)]))
        self.assert_trace(
            trace, [store(1, 0, 8), fence(1), written(3, 5, 5, 1, (0, 3))], (8,), (1,), (("line", 5),), 5
        )

    def test_no_line_of_another_run_is_waited_for(self):
        trace = self.translated(self.contents((1, 8), (0, 7)), (7, 8), Block([(0, 7, 1)]), Block([(1, 8, 1)]))
        self.assert_trace(
            trace,
            [
                store(0, 0, 7), store(1, 0, 8), fence(0, 1), written(2, 6, 6, 1, (0, 1)), written(3, 7, 6, 1, (1, 1)),
            ],
            (10, 15), (), (("line", 6),), 6,
        )

    def test_no_stores_and_nothing_to_wait_for(self):
        trace = self.translated(self.contents((-1, 0), (-1, 0)), (0, 0), Block([(0, 0, 1)]))
        self.assert_trace(trace, [written(2, 6, 6, 1, (0, 1))], (5,), (), (), 6)

    def test_a_later_line_of_the_run_waits(self):
        trace = self.translated(
            self.contents((0, 5)), (5, 0), Block([(0, 5, 6)]), Block([(1, 0, 2)]), Block([(1, 2, 3)]), Sync()
        )
        self.assert_trace(
            trace,
            [
                store(0, 0, 5), fence(0), written(3, 5, 5, 1, (0, 6)), written(2, 6, 5, 1, (1, 2)), fence(2, 3),
                store(0, 0, 6), store(1, 0, 2), fence(0, 1), written(3, 7, 5, 1, (1, 3)), fence(3), store(1, 0, 3),
            ],
            (8, 13, 26), (29,), (("line", 5), ("line", 7), ("line", 7), ("event", 3)), 5,
        )

    def test_the_largest_heads(self):
        last = 2 ** 60 - 2
        contents = [[0] * 4, [0] * 4, log_line(4, last, last, 1, (0, 1)), [0] * 4]
        trace = self.translated(contents, (1, 0), Block([(0, 1, 2)]))
        self.assertEqual(trace.first, last + 1)
        self.assertEqual(trace.commands[-1], Store(3, 0, (last + 1) * HEAD + last + 2))


class SecondReadingTest(TraceCase):
    def test_any_runs(self):
        seen = set()
        for seed in range(150):
            chance = random.Random(seed)
            layout = random_layout(chance, chance.randint(0, 6))
            slots = chance.choice([1, 2, 2, 3, 4, 9])
            contents = blank(layout, slots)
            for _ in range(3):
                room = slots * (layout.width // 2 - 1)
                start = recover(contents, layout, slots).heap
                share = chance.choice([0, 0.1, 0.3])
                run = random_run(chance, start, chance.randint(0, 6), min(room, 4), share)
                trace = translate(run, layout, contents, slots)
                second = SecondRuntime(run, layout, contents, slots)
                self.assert_trace(
                    trace, [[plain(command) for command in second.commands]], tuple(second.made),
                    tuple(second.passed), tuple(second.reasons), second.first,
                )
                self.assertEqual((trace.layout, trace.slots), (layout, slots))
                self.assertEqual(trace.start, tuple(tuple(line) for line in contents))
                seen |= {reason[0] for reason in trace.reasons}
                contents = random_cut(chance, trace)
        self.assertEqual(seen, {"line", "event"})

    def test_one_place_again_and_again(self):
        for slots in (1, 2, 3, 5):
            for many in range(1, 9):
                layout = Layout(4, [[1, 0]])
                events = []
                words = [0, 0]
                for time in range(many):
                    place = time % 3 // 2
                    events.append(Block([(place, words[place], time + 1)]))
                    words[place] = time + 1
                run = Run((0, 0), events, None)
                second = SecondRuntime(run, layout, blank(layout, slots), slots)
                trace = translate(run, layout, blank(layout, slots), slots)
                self.assert_trace(trace, [[plain(command) for command in second.commands]], tuple(second.made))


class ErrorsTest(unittest.TestCase):
    LAYOUT = Layout(4, [[1, 0], [2]])

    def refused(self, run, contents, slots, layout=LAYOUT):
        """The error as a tuple, or None."""
        try:
            translate(run, layout, contents, slots)
        except Misfit as error:
            return ("misfit", error.place)
        except BadCount as error:
            return (error.what, error.count)
        except Shape:
            return ("shape",)
        except Other as error:
            return ("other", error.place)
        except Wide as error:
            return ("wide", error.count)
        return None

    def test_misfit(self):
        for many in (0, 1, 2, 4, 5, 50):
            run = Run((0,) * many, [], None)
            self.assertEqual(self.refused(run, blank(self.LAYOUT, 2), 2), ("misfit", min(many, 3)))
        self.assertEqual(self.refused(Run((), [], None), ((0,) * 4,), 1, Layout(4, [])), None)
        self.assertEqual(self.refused(Run((1,), [], None), ((0,) * 4,), 1, Layout(4, [])), ("misfit", 0))

    def test_slots(self):
        for slots in NO_SLOTS:
            found = self.refused(Run((0, 0, 0), [], None), blank(self.LAYOUT, 2), slots)
            self.assertEqual(found, ("slots", slots))
            self.assertIs(found[1], slots)

    def test_shape(self):
        right = blank(self.LAYOUT, 2)
        run = Run((0, 0, 0), [], None)
        for wrong in (right[1:], right + right[:1], (), right[:3] + ((0,) * 3,), ((0,) * 5,) + right[1:]):
            self.assertEqual(self.refused(run, wrong, 2), ("shape",))
        self.assertEqual(self.refused(run, right, 3), ("shape",))
        self.assertIsNone(self.refused(run, [list(line) for line in right], 2))

    def test_other(self):
        contents = [[5, 6, 0, 0], [7, 0, 0, 0], [1, 1, 2, 9]]
        self.assertIsNone(self.refused(Run((6, 5, 9), [], None), contents, 1))
        for start, place in (((6, 5, 7), 2), ((6, 6, 9), 1), ((0, 0, 0), 0), ((6, 0, 0), 1), ((-6, 5, 9), 0)):
            self.assertEqual(self.refused(Run(start, [], None), contents, 1), ("other", place))

    def test_wide(self):
        right = blank(self.LAYOUT, 2)
        three = Block([(0, 0, 1), (1, 0, 1), (2, 0, 1)])
        back = Block([(0, 1, 0), (1, 1, 0)])
        self.assertEqual(self.refused(Run((0, 0, 0), [three], None), right, 2), ("wide", 3))
        self.assertEqual(self.refused(Run((0, 0, 0), [Sync(), back, three], None), right, 2), ("wide", 3))
        one = blank(self.LAYOUT, 1)
        self.assertEqual(self.refused(Run((0, 0, 0), [back, three], None), one, 1), ("wide", 2))
        self.assertIsNone(self.refused(Run((0, 0, 0), [three], None), blank(self.LAYOUT, 3), 3))
        wide = Layout(8, [[0, 1, 2]])
        self.assertIsNone(self.refused(Run((0, 0, 0), [three], None), blank(wide, 1), 1, wide))

    def test_which_one_is_first(self):
        three = Block([(0, 0, 1), (1, 0, 1), (2, 0, 1)])
        right = blank(self.LAYOUT, 2)
        self.assertEqual(self.refused(Run((1, 0), [three], None), (), 0), ("misfit", 2))
        self.assertEqual(self.refused(Run((1, 0, 0), [three], None), (), 0), ("slots", 0))
        self.assertEqual(self.refused(Run((1, 0, 0), [three], None), (), 2), ("shape",))
        self.assertEqual(self.refused(Run((1, 0, 0), [three], None), right, 2), ("other", 0))
        self.assertEqual(self.refused(Run((0, 0, 0), [three], None), right, 2), ("wide", 3))

    def test_arguments_stay_as_they_were(self):
        contents = [[0] * 4, [0] * 4, [1, 1, 2, 9], [0] * 4]
        before = [list(line) for line in contents]
        run = Run((0, 0, 9), [Block([(0, 0, 1)]), Sync(), Block([(2, 9, 1)])], None)
        layout = Layout(4, [[1, 0], [2]])
        trace = translate(run=run, layout=layout, contents=contents, slots=2)
        self.assertEqual(contents, before)
        self.assertEqual(run, Run((0, 0, 9), [Block([(0, 0, 1)]), Sync(), Block([(2, 9, 1)])], None))
        self.assertEqual(layout, Layout(4, [[1, 0], [2]]))
        contents[0][0] = 5
        self.assertEqual(trace.start[0], (0, 0, 0, 0))
        self.assertEqual(trace, translate(run, layout, before, 2))
        self.assertEqual(trace, translate(run, layout, tuple(tuple(line) for line in before), 2))


class TraceTest(unittest.TestCase):
    def test_fields(self):
        layout = Layout(4, [[0]])
        start, commands, made = [[0] * 4, [1] * 4], [Fence(), Flush(0)], [1]
        passed, reasons = [2, 3], [["line", 0], ("event", 1)]
        trace = Trace(layout, 1, start, commands, made, passed, reasons, 7)
        start[0][0] = 9
        reasons[0][1] = 9
        for one in (start, commands, made, passed, reasons):
            one.append(5)
        self.assertEqual((trace.layout, trace.slots, trace.first), (layout, 1, 7))
        self.assertEqual(trace.start, ((0, 0, 0, 0), (1, 1, 1, 1)))
        self.assertEqual(trace.commands, (Fence(), Flush(0)))
        self.assertEqual((trace.made, trace.passed), ((1,), (2, 3)))
        self.assertEqual(trace.reasons, (("line", 0), ("event", 1)))

    def test_kinds_of_what_is_returned(self):
        layout = Layout(4, [[0]])
        trace = translate(Run((0,), [Block([(0, 0, 1)]), Sync()], None), layout, [[0] * 4, [0] * 4], 1)
        for field in (trace.start, trace.start[0], trace.commands, trace.made, trace.passed, trace.reasons,
                      trace.reasons[0]):
            self.assertIs(type(field), tuple)

    def test_equality(self):
        one, other = Layout(4, [[0]]), Layout(6, [[0]])
        fields = (one, 1, ((0,),), (Fence(),), (1,), (2,), (("line", 0),), 0)
        changed = (other, 2, ((1,),), (Flush(0),), (2,), (3,), (("line", 1),), 1)
        self.assertEqual(Trace(*fields), Trace(*fields))
        for index in range(8):
            wrong = Trace(*fields[:index], changed[index], *fields[index + 1:])
            self.assertFalse(Trace(*fields) == wrong)
            self.assertTrue(Trace(*fields) != wrong)
        self.assertFalse(Trace(*fields) == fields)
        named = Trace(
            first=0, reasons=[["line", 0]], passed=[2], made=[1], commands=[Fence()], start=[[0]], slots=1, layout=one
        )
        self.assertEqual(named, Trace(*fields))


if __name__ == "__main__":
    unittest.main()
