"""[26] and [27]: joined blocks, numbers of fences and flushes, and the smallest ring."""

import random
import unittest

from lastheap.errors import BadCount, Misfit, Wide
from lastheap.lines import Fence, Flush, Layout
from lastheap.ring import blank, log_pairs
from lastheap.running import Block, Out, Run, Stop, Sync, heaps
from lastheap.runs import fences, flushes, joined, smallest_ring
from lastheap.runtime import translate
from tests.memory_helpers import random_layout, random_run
from tests.second_memory import SecondRuntime

ONE = Block([(0, 0, 1)])
TWO = Block([(1, 0, 2)])
BACK = Block([(0, 1, 0)])
STOP = Stop("none", 3, 4)


class RunsCase(unittest.TestCase):
    def assert_refused(self, expected, function, *arguments):
        with self.assertRaises(type(expected)) as caught:
            function(*arguments)
        self.assertEqual(vars(caught.exception), vars(expected))


class JoinedTest(RunsCase):
    def test_sizes_of_one(self):
        run = Run((0, 0), [ONE, Sync(), TWO, Out(4), BACK], STOP)
        self.assertEqual(joined(run, [1, 1, 1]), run)
        self.assertEqual(joined(run, (1, 1, 1)), run)
        self.assertIsNot(joined(run, [1, 1, 1]), run)

    def test_one_size(self):
        run = Run((0, 0), [ONE, TWO, Block([(1, 2, 5)])], STOP)
        self.assertEqual(joined(run, [3]), Run((0, 0), [Block([(0, 0, 1), (1, 0, 5)])], STOP))

    def test_places_ascend(self):
        run = Run((0,) * 12, [Block([(11, 0, 1)]), Block([(2, 0, 1), (7, 0, 1)]), Block([(0, 0, 1), (10, 0, 1)])], None)
        places = [change[0] for change in joined(run, [3]).events[0].changes]
        self.assertEqual(places, [0, 2, 7, 10, 11])

    def test_the_old_word_of_the_first_and_the_new_one_of_the_last(self):
        run = Run((3,), [Block([(0, 3, 4)]), Block([(0, 4, -5)]), Block([(0, -5, 9)])], None)
        self.assertEqual(joined(run, [3]).events, (Block([(0, 3, 9)]),))
        self.assertEqual(joined(run, [2, 1]).events, (Block([(0, 3, -5)]), Block([(0, -5, 9)])))

    def test_words_that_come_back(self):
        run = Run((0, 0), [ONE, TWO, BACK], None)
        self.assertEqual(joined(run, [3]).events, (Block([(1, 0, 2)]),))
        self.assertEqual(joined(run, [1, 2]).events, (ONE, Block([(0, 1, 0), (1, 0, 2)])))

    def test_blocks_that_vanish(self):
        run = Run((0, 0), [Sync(), ONE, BACK, Out(1), TWO], STOP)
        self.assertEqual(joined(run, [2, 1]), Run((0, 0), [Sync(), Out(1), TWO], STOP))
        self.assertEqual(joined(Run((0,), [ONE, BACK], None), [2]), Run((0,), [], None))
        self.assertEqual(joined(Run((0,), [ONE, BACK, ONE, BACK], None), [1, 2, 1]).events, (ONE, BACK))

    def test_syncs_and_outs_stay(self):
        run = Run((0, 0), [Out(1), Sync(), ONE, BACK, ONE, Out(2), Out(3), TWO, BACK, Sync()], None)
        found = joined(run, [3, 2])
        last = Block([(0, 1, 0), (1, 0, 2)])
        self.assertEqual(found.events, (Out(1), Sync(), ONE, Out(2), Out(3), last, Sync()))

    def test_no_blocks(self):
        for events in ([], [Sync(), Out(1)]):
            run = Run((5,), events, STOP)
            self.assertEqual(joined(run, []), run)
            self.assertEqual(joined(run, ()), run)

    def test_wrong_sizes(self):
        run = Run((0, 0), [ONE, Sync(), TWO, BACK], None)
        for sizes in ([], [1], [2], [1, 1], [3, 1], [4], [1, 1, 1, 1], [10 ** 20]):
            self.assert_refused(BadCount("sizes", sum(sizes)), joined, run, sizes)
        for sizes in ([0], [1, 0, 2], [0, 3], [3, 0], [-1, 4], [5, -2], [1, 2, 0]):
            self.assert_refused(BadCount("sizes", sum(sizes)), joined, run, sizes)
        none = Run((0, 0), [Sync()], None)
        for sizes in ([0], [1], [-1, 1], [0, 0]):
            self.assert_refused(BadCount("sizes", sum(sizes)), joined, none, sizes)

    def test_something_between(self):
        for other in (Sync(), Out(3)):
            run = Run((0, 0), [ONE, BACK, TWO, other, ONE, BACK, ONE], None)
            self.assert_refused(BadCount("joined", 0), joined, run, [4, 2])
            self.assert_refused(BadCount("joined", 1), joined, run, [2, 4])
            self.assert_refused(BadCount("joined", 2), joined, run, [1, 1, 2, 2])
            self.assert_refused(BadCount("joined", 1), joined, run, [1, 5])
            joined(run, [3, 3])
            two = Run((0, 0), [ONE, other, BACK, ONE, other, BACK], None)
            self.assert_refused(BadCount("joined", 0), joined, two, [2, 2])
            self.assert_refused(BadCount("joined", 1), joined, two, [1, 3])
            # The sizes come first.
            self.assert_refused(BadCount("sizes", 5), joined, two, [2, 3])
            self.assert_refused(BadCount("sizes", 4), joined, two, [2, 0, 2])

    def test_any_runs(self):
        for seed in range(100):
            chance = random.Random(seed)
            run = random_run(chance, (0,) * chance.randint(1, 4), chance.randint(0, 9), 3, 0.2)
            sizes = []
            inside = False
            for event in run.events:
                if not isinstance(event, Block):
                    inside = False
                elif inside and chance.random() < 0.6:
                    sizes[-1] += 1
                else:
                    sizes.append(1)
                    inside = True
            found = joined(run, sizes)
            expected = [heaps(run)[sum(sizes[:many])] for many in range(len(sizes) + 1)]
            changed = [heap for at, heap in enumerate(expected) if at == 0 or heap != expected[at - 1]]
            self.assertEqual(heaps(found), changed)
            self.assertEqual(
                [event for event in found.events if not isinstance(event, Block)],
                [event for event in run.events if not isinstance(event, Block)],
            )
            at = 0
            for before, event in zip(heaps(found), [one for one in found.events if isinstance(one, Block)]):
                after = heaps(found)[at + 1]
                at += 1
                self.assertEqual(event.changes, tuple(
                    (place, before[place], after[place]) for place in range(len(before)) if before[place] != after[place]
                ))

    def test_arguments_stay_as_they_were(self):
        sizes = [2, 1]
        run = Run((0, 0), [ONE, TWO, BACK], STOP)
        joined(sizes=sizes, run=run)
        self.assertEqual(sizes, [2, 1])
        self.assertEqual(run, Run((0, 0), [ONE, TWO, BACK], STOP))
        self.assertIs(type(joined(run, sizes).events), tuple)


class FencesTest(RunsCase):
    def test_numbers_of_a_trace(self):
        for seed in range(80):
            chance = random.Random(seed)
            layout = random_layout(chance, chance.randint(0, 5))
            many = sum(len(line) for line in layout.lines)
            slots = chance.choice([1, 2, 3, 9])
            room = slots * (layout.width // 2 - 1)
            run = random_run(chance, (0,) * many, chance.randint(0, 7), min(room, 3), 0.25)
            commands = SecondRuntime(run, layout, blank(layout, slots), slots).commands
            self.assertEqual(fences(run, layout, slots), sum(isinstance(one, Fence) for one in commands))
            self.assertEqual(flushes(run, layout, slots), sum(isinstance(one, Flush) for one in commands))

    def test_a_run_that_starts_elsewhere(self):
        layout = Layout(4, [[0], [1]])
        events = [Block([(0, 7, 8)]), Sync(), Block([(1, 9, 0), (0, 8, 7)][1:]), Out(1)]
        run = Run((7, 9), events, STOP)
        trace = translate(Run((0, 0), events, None), layout, blank(layout, 2), 2)
        self.assertEqual(fences(run, layout, 2), len(trace.reasons))
        self.assertEqual(fences(run, layout, 2), 2)
        self.assertEqual(flushes(run, layout, 2), 3)
        self.assertEqual(flushes(run=run, slots=2, layout=layout), 3)
        self.assertEqual(fences(slots=2, layout=layout, run=run), 2)

    def test_nothing(self):
        layout = Layout(4, [[0]])
        for run in (Run((0,), [], None), Run((3,), [Sync(), Out(2)], STOP), Run((0,), [ONE], None)):
            self.assertEqual((fences(run, layout, 1), flushes(run, layout, 1)), (0, 0))
        empty = Layout(12, [])
        self.assertEqual((fences(Run((), [Sync()], None), empty, 9), flushes(Run((), [], None), empty, 9)), (0, 0))

    def test_errors(self):
        layout = Layout(4, [[1, 0]])
        wide = Block([(0, 0, 1), (1, 0, 1)])
        for function in (fences, flushes):
            self.assert_refused(Misfit(2), function, Run((0,) * 3, [wide], None), layout, 0)
            self.assert_refused(Misfit(1), function, Run((0,), [wide], None), layout, 0)
            for slots in (0, 10, -1, True, False, None, "1", 10 ** 20):
                self.assert_refused(BadCount("slots", slots), function, Run((0, 5), [wide], None), layout, slots)
            self.assert_refused(Wide(2), function, Run((0, 5), [ONE, wide], None), layout, 1)
            function(Run((0, 5), [wide], None), layout, 2)


class SmallestRingTest(RunsCase):
    def test_most(self):
        layout = Layout(4, [range(4), range(4, 8), range(8, 12)])
        run = Run((0,) * 12, [Block([(place, 0, 1)]) for place in range(12)], None)
        counts = [fences(run, layout, slots) for slots in range(1, 10)]
        self.assertEqual(counts, [2 * (11 // slots) for slots in range(1, 10)])
        for most in range(-2, 30):
            fitting = [slots for slots in range(1, 10) if counts[slots - 1] <= most]
            self.assertEqual(smallest_ring(run, layout, most), min(fitting, default=None))
        for most, slots in ((22, 1), (21, 2), (10, 2), (9, 3), (2, 6), (1, None), (0, None), (-1, None)):
            self.assertEqual(smallest_ring(run, layout, most), slots)
        self.assertEqual(smallest_ring(run, layout, 10 ** 40), 1)
        self.assertIsNone(smallest_ring(run, layout, -10 ** 40))

    def test_nothing_to_do(self):
        layout = Layout(4, [[0]])
        for events in ([], [Sync()]):
            self.assertEqual(smallest_ring(Run((4,), events, STOP), layout, 0), 1)
            self.assertIsNone(smallest_ring(Run((4,), events, STOP), layout, -1))

    def test_long_blocks(self):
        layout = Layout(4, [range(4), range(4, 8), range(8, 12)])
        for many in range(1, 13):
            run = Run((0,) * 12, [Block([(0, 0, 1)]), Block([(place, 0, 1) for place in range(many)])], None)
            self.assertEqual(smallest_ring(run, layout, 99), many if many < 10 else None)
            needed = max(many, len(log_pairs(run.events[1].changes, 6)))
            self.assertGreaterEqual(needed, many)

    def test_any_runs(self):
        for seed in range(40):
            chance = random.Random(seed)
            layout = random_layout(chance, chance.randint(1, 6))
            many = sum(len(line) for line in layout.lines)
            run = random_run(chance, (1,) * many, chance.randint(0, 12), 4, 0.2)
            for most in (0, 1, 2, 3, 5, 8):
                expected = None
                for slots in range(9, 0, -1):
                    try:
                        if fences(run, layout, slots) <= most:
                            expected = slots
                    except Wide:
                        pass
                self.assertEqual(smallest_ring(run, layout, most), expected)

    def test_errors(self):
        layout = Layout(4, [[1, 0]])
        self.assert_refused(Misfit(2), smallest_ring, Run((0,) * 3, [], None), layout, 5)
        self.assert_refused(Misfit(1), smallest_ring, Run((0,), [], None), layout, -5)
        self.assert_refused(Misfit(0), smallest_ring, Run((), [], None), layout, 5)
        # Also if no ring is large enough.
        long = Block([(place, 0, 1) for place in range(10)])
        self.assert_refused(Misfit(2), smallest_ring, Run((0,) * 10, [long], None), layout, 5)
        self.assertIsNone(smallest_ring(Run((0,) * 10, [long], None), Layout(4, [[place] for place in range(10)]), 5))
        self.assertEqual(smallest_ring(most=5, layout=layout, run=Run((1, 2), [], None)), 1)


if __name__ == "__main__":
    unittest.main()
