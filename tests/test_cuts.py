"""[21]: after any cuts the heap is that after the first k blocks."""

import random
import unittest

from lastheap.images import contents_of, count_images, image_at
from lastheap.lines import Layout
from lastheap.prefixes import prefix_of, staircase
from lastheap.recovery import recover
from lastheap.ring import blank
from lastheap.running import Block, Run, Sync, heaps
from lastheap.runtime import translate
from tests.memory_helpers import random_cut, random_layout, random_run
from tests.second_memory import images_at, images_in_order


def some_run(chance, contents, layout, slots, many, share=0.2):
    """A run from the heap that these contents mean, and its trace."""
    room = slots * (layout.width // 2 - 1)
    start = recover(contents, layout, slots).heap
    run = random_run(chance, start, many, min(room, 3), share)
    return run, translate(run, layout, contents, slots)


class AllCutsTest(unittest.TestCase):
    def check_all(self, run, trace):
        """Each image at each time leads to the heap after so many blocks as [21] says."""
        found = heaps(run)
        steps = staircase(trace)
        kept = {}
        for image, _ in images_in_order(trace.commands, len(trace.layout.lines) + trace.slots):
            kept[image] = prefix_of(trace, image)
            recovered = recover(contents_of(trace, image), trace.layout, trace.slots)
            self.assertEqual(recovered.heap, found[kept[image]])
        for time, (settled, made) in enumerate(steps):
            images = images_at(trace.commands, len(trace.layout.lines) + trace.slots, time)
            self.assertEqual({kept[image] for image in images}, set(range(settled, made + 1)))
        passed = [index for index, event in enumerate(run.events) if not isinstance(event, Block)]
        for index, time in zip(passed, trace.passed):
            before = len([event for event in run.events[:index] if isinstance(event, Block)])
            self.assertGreaterEqual(steps[time][0], before)
        return len(kept)

    def test_small_runs(self):
        many = 0
        for seed in range(80):
            chance = random.Random(seed)
            layout = random_layout(chance, chance.randint(1, 4), (4, 4, 6))
            slots = chance.choice([1, 2, 2, 3])
            contents = blank(layout, slots)
            for _ in range(3):
                run, trace = some_run(chance, contents, layout, slots, chance.randint(0, 4))
                if count_images(trace) < 500:
                    many += self.check_all(run, trace)
                contents = random_cut(chance, trace)
        self.assertGreater(many, 5000)

    def test_every_cut_of_a_recovery(self):
        # The recovery is cut at each of its times, and then recovery finds the same heap.
        layout = Layout(4, [[0, 1], [2]])
        run = Run((0, 0, 0), [Block([(0, 0, 5)]), Block([(1, 0, 6), (2, 0, 7)])], None)
        trace = translate(run, layout, blank(layout, 3), 3)
        contents = contents_of(trace, (0, 0, 5, 5, 5))
        again = translate(Run((5, 6, 7), [], None), layout, contents, 3)
        self.assertEqual(count_images(again), 6)
        for place in range(6):
            left = contents_of(again, image_at(again, place))
            self.assertEqual(recover(left, layout, 3).heap, (5, 6, 7))
            third = translate(Run((5, 6, 7), [Sync(), Block([(1, 6, 8)])], None), layout, left, 3)
            self.check_all(Run((5, 6, 7), [Sync(), Block([(1, 6, 8)])], None), third)

    def test_the_log_line_of_a_new_run_that_is_cut(self):
        layout = Layout(4, [[0]])
        first = translate(Run((0,), [Block([(0, 0, 5)])], None), layout, blank(layout, 2), 2)
        contents = contents_of(first, (0, 5, 0))
        second = Run((5,), [Block([(0, 5, 6)])], None)
        trace = translate(second, layout, contents, 2)
        self.assertEqual(trace.reasons, (("line", 1),))
        self.assertEqual(self.check_all(second, trace), 1 + 1 + 5)


class CutsAgainAndAgainTest(unittest.TestCase):
    def test_long_histories(self):
        for seed in range(60):
            chance = random.Random(seed)
            layout = random_layout(chance, chance.randint(1, 8))
            slots = chance.choice([1, 2, 3, 4, 9])
            contents = blank(layout, slots)
            expected = recover(contents, layout, slots).heap
            number = 0
            for _ in range(12):
                recovered = recover(contents, layout, slots)
                self.assertEqual(recovered.heap, expected)
                self.assertGreaterEqual(recovered.following, number)
                number = recovered.following
                run, trace = some_run(chance, contents, layout, slots, chance.choice([0, 0, 1, 2, 5, 9]))
                self.assertEqual(trace.first, number)
                image = image_at(trace, chance.randrange(count_images(trace)))
                if chance.random() < 0.2:
                    image = image_at(trace, count_images(trace) - 1)
                expected = heaps(run)[prefix_of(trace, image)]
                contents = contents_of(trace, image)


if __name__ == "__main__":
    unittest.main()
