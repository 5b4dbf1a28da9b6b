"""[2]: rules, strangers, runs and rounds up to the bounds, in a few seconds each."""

import random
import time
import unittest

from lastheap.errors import Large
from lastheap.images import count_images
from lastheap.lines import Fence, Flush, Layout, Store
from lastheap.recovery import recover
from lastheap.ring import blank
from lastheap.rounds import fences_of_rounds
from lastheap.rules import Broken, broken_rule
from lastheap.running import Block, Run, Sync, heaps
from lastheap.runs import fences, flushes, joined, smallest_ring
from lastheap.runtime import translate
from lastheap.strangers import wrong_image
from tests.memory_helpers import made_by_hand, random_cut
from tests.test_bounds_of_memory import run_of

SECONDS = 20
LAYOUTS = (
    Layout(12, [[place] for place in range(120)]),
    Layout(12, [range(at, at + 12) for at in range(0, 120, 12)]),
    Layout(4, [range(at, at + 4) for at in range(0, 120, 4)]),
)


class BoundsCase(unittest.TestCase):
    def setUp(self):
        self.begun = time.process_time()

    def tearDown(self):
        self.assertLess(time.process_time() - self.begun, SECONDS)


class RulesTest(BoundsCase):
    def test_long_runs(self):
        for layout, slots, most in ((LAYOUTS[0], 9, 5), (LAYOUTS[1], 1, 5), (LAYOUTS[2], 9, 1), (LAYOUTS[2], 1, 1)):
            contents = blank(layout, slots)
            start = (0,) * 120
            for _ in range(2):
                run = run_of(start, 100, 7, most)
                trace = translate(run, layout, contents, slots)
                self.assertIsNone(broken_rule(run, layout, contents, slots, trace.commands))
                last = len(trace.commands) - 1
                self.assertEqual(
                    broken_rule(run, layout, contents, slots, list(trace.commands) + [Flush(-1)]),
                    Broken("line", last + 1),
                )
                for at in (last, last // 2, last // 3):
                    part = trace.commands[:at] + trace.commands[at + 1:]
                    broken_rule(run, layout, contents, slots, part)
                contents = random_cut(random.Random(slots), trace)
                start = recover(contents, layout, slots).heap

    def test_as_many_log_lines_as_there_may_be(self):
        events = [Block([(9 * time_of + more, 0, 1) for more in range(9)]) for time_of in range(13)]
        run = Run((0,) * 120, events, None)
        trace = translate(run, LAYOUTS[2], blank(LAYOUTS[2], 9), 9)
        self.assertIsNone(broken_rule(run, LAYOUTS[2], blank(LAYOUTS[2], 9), 9, trace.commands))

    def test_the_same_data_stores_many_times(self):
        run = Run((0,) * 120, [Block([(place, 0, 1)]) for place in range(20)], None)
        trace = translate(run, LAYOUTS[2], blank(LAYOUTS[2], 9), 9)
        commands = []
        for command in trace.commands:
            commands.extend([command] * (300 if isinstance(command, Store) and command.line < 30 else 1))
        self.assertIsNone(broken_rule(run, LAYOUTS[2], blank(LAYOUTS[2], 9), 9, commands))


class StrangersTest(BoundsCase):
    def test_just_as_many_images_as_may_be(self):
        # A fence behind each store, so that the images are in a row.
        layout = LAYOUTS[0]
        run = run_of((0,) * 120, 38, 4, 1)
        trace = translate(run, layout, blank(layout, 9), 9)
        commands = []
        for command in trace.commands:
            if isinstance(command, Store):
                commands.extend([command, Flush(command.line), Fence()])
        commands = commands[:3 * 499]
        self.assertEqual(count_images(made_by_hand(layout, 9, commands)), 500)
        made, passed = [0] * 38, [10 ** 9] * len(trace.passed)
        found = wrong_image(run, layout, blank(layout, 9), 9, commands, made, passed)
        self.assertIsNone(found)
        late = [time_of * 3 for time_of in trace.made]
        self.assertIsNotNone(wrong_image(run, layout, blank(layout, 9), 9, commands, late, [0] * len(passed)))
        more = commands + [Store(0, 5, 0)]
        with self.assertRaises(Large):
            wrong_image(run, layout, blank(layout, 9), 9, more, made, passed)

    def test_far_too_many_images(self):
        layout = LAYOUTS[0]
        run = run_of((0,) * 120, 100, 0, 5)
        trace = translate(run, layout, blank(layout, 9), 9)
        with self.assertRaises(Large) as caught:
            wrong_image(run, layout, blank(layout, 9), 9, trace.commands, trace.made, trace.passed)
        self.assertEqual(caught.exception.count, 501)


class RunsTest(BoundsCase):
    def test_long_runs(self):
        for layout, most in ((LAYOUTS[0], 5), (LAYOUTS[2], 1)):
            run = run_of((0,) * 120, 100, 7, most)
            counts = [fences(run, layout, slots) for slots in range(1, 10)]
            self.assertEqual(counts, sorted(counts, reverse=True))
            self.assertGreater(flushes(run, layout, 9), counts[-1])
            for wanted in (counts[0], counts[4], counts[8], counts[8] - 1):
                fitting = [slots for slots in range(1, 10) if counts[slots - 1] <= wanted]
                self.assertEqual(smallest_ring(run, layout, wanted), min(fitting, default=None))

    def test_joining_a_hundred_blocks(self):
        run = run_of((0,) * 120, 100, 0, 120)
        found = joined(run, [100])
        self.assertEqual(len(found.events), 1)
        self.assertEqual(heaps(found)[1], heaps(run)[100])
        self.assertEqual(joined(run, [1] * 100), run)
        halves = joined(Run(run.start, run.events[:50] + (Sync(),) + run.events[50:], None), [50, 50])
        self.assertEqual(heaps(halves)[1:], [heaps(run)[50], heaps(run)[100]])

    def test_rounds(self):
        for width in (4, 6, 8, 10, 12):
            for slots in range(1, 10):
                room = min(60, slots * (width // 2 - 1))
                for step in (1, 100):
                    blocks = [list(range(step * at, step * at + room)) for at in range(12)]
                    self.assertGreater(fences_of_rounds(blocks, width, slots, 10 ** 30), 10 ** 30)


if __name__ == "__main__":
    unittest.main()
