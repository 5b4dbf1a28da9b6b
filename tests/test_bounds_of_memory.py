"""[2]: layouts, runs and traces up to the bounds, in a few seconds each."""

import random
import time
import unittest

from lastheap.images import contents_of, count_images, cut_times, image_at, place_of
from lastheap.lines import Layout
from lastheap.prefixes import count_by_prefix, image_with, prefix_of, staircase
from lastheap.recovery import recover
from lastheap.ring import blank
from lastheap.running import Block, Run, Sync, heaps
from lastheap.runtime import translate
from tests.memory_helpers import made_by_hand, random_commands

SECONDS = 20


def run_of(start, blocks, syncs, most):
    """A run of so many blocks, one more change for each place that `most` leaves, with syncs in between."""
    heap = list(start)
    events = []
    for time_of in range(blocks):
        places = sorted({(time_of * 7 + more * 13) % len(heap) for more in range(1 + time_of % most)})
        events.append(Block([(place, heap[place], heap[place] + time_of + 1) for place in places]))
        for place in places:
            heap[place] += time_of + 1
        if syncs and time_of % syncs == syncs - 1:
            events.append(Sync())
    return Run(start, events, None)


class BoundsTest(unittest.TestCase):
    def setUp(self):
        self.begun = time.process_time()

    def tearDown(self):
        self.assertLess(time.process_time() - self.begun, SECONDS)

    def check(self, layout, slots, syncs, most, blocks=100):
        many = sum(len(line) for line in layout.lines)
        contents = blank(layout, slots)
        start = (0,) * many
        for share in (3, 1):
            run = run_of(start, blocks, syncs, most)
            trace = translate(run, layout, contents, slots)
            self.assertEqual(len(trace.made), blocks)
            number = count_images(trace)
            counts = count_by_prefix(trace)
            self.assertEqual(sum(counts), number)
            self.assertGreater(min(counts), 0)
            place = number // share - 1
            image = image_at(trace, place)
            self.assertEqual(place_of(trace, image), place)
            first, last = cut_times(trace, image)
            steps = staircase(trace)
            prefix = prefix_of(trace, image)
            self.assertTrue(steps[last][0] <= prefix <= steps[first][1])
            for k in (0, blocks // 2, blocks):
                self.assertEqual(prefix_of(trace, image_with(trace, k)), k)
            contents = contents_of(trace, image)
            start = recover(contents, layout, slots).heap
            self.assertEqual(start, heaps(run)[prefix])

    def test_all_places_in_one_line_each(self):
        layout = Layout(12, [[place] for place in range(120)])
        for slots in (1, 9):
            self.check(layout, slots, 9, 5)

    def test_full_lines(self):
        layout = Layout(12, [range(at, at + 12) for at in range(0, 120, 12)])
        for slots in (1, 2, 9):
            self.check(layout, slots, 0, 5)

    def test_narrow_lines(self):
        layout = Layout(4, [range(at, at + 4) for at in range(0, 120, 4)])
        for slots in (2, 9):
            self.check(layout, slots, 0, 1)
            self.check(layout, slots, 3, 2, 80)

    def test_the_longest_log(self):
        # 13 blocks of 9 log lines each.
        layout = Layout(4, [range(at, at + 4) for at in range(0, 120, 4)])
        events = [Block([(9 * time_of + more, 0, 1) for more in range(9)]) for time_of in range(13)]
        run = Run((0,) * 120, events, None)
        trace = translate(run, layout, blank(layout, 9), 9)
        self.assertEqual(sum(count_by_prefix(trace)), count_images(trace))
        self.assertEqual(len(trace.reasons), 2 * 12 * 1)
        self.assertEqual(prefix_of(trace, image_with(trace, 13)), 13)

    def test_images_far_too_many_to_list(self):
        layout = Layout(4, [[0, 1, 2, 3]])
        run = Run((0,) * 4, [Block([(time_of % 4, time_of // 4, time_of // 4 + 1)]) for time_of in range(100)], None)
        trace = translate(run, layout, blank(layout, 9), 9)
        self.assertGreater(count_images(trace), 10 ** 7)
        trace = made_by_hand(layout, 9, random_commands(random.Random(1), layout, 9, 600, 0, 0))
        self.assertGreater(count_images(trace), 10 ** 15)
        many = count_images(trace)
        for place in (0, 1, many // 7, many // 2, many - 1):
            self.assertEqual(place_of(trace, image_at(trace, place)), place)

    def test_some_hundreds_of_commands_on_twelve_lines(self):
        layout = Layout(12, [[place] for place in range(3)])
        for seed in range(6):
            chance = random.Random(seed)
            commands = random_commands(chance, layout, 9, 900, *[(0.02, 0.1), (0.1, 0.3), (0, 0)][seed % 3])
            trace = made_by_hand(layout, 9, commands)
            many = count_images(trace)
            for _ in range(5):
                place = chance.randrange(many)
                image = image_at(trace, place)
                self.assertEqual(place_of(trace, image), place)
                first, last = cut_times(trace, image)
                self.assertTrue(0 <= first <= last <= 900)

    def test_heads_near_the_bound(self):
        layout = Layout(4, [[0], [1]])
        number = 2 ** 60 - 121
        head = number * 2 ** 62 + number + 1
        slots = 9
        ring = [[0] * 4 for _ in range(slots)]
        ring[number % slots] = [head, 1, 0, 7]
        contents = [[0] * 4, [0] * 4] + ring
        run = Run((7, 0), [Block([(0, 7 + time_of, 8 + time_of)]) for time_of in range(100)], None)
        trace = translate(run, layout, contents, slots)
        self.assertEqual(trace.first, number + 1)
        left = contents_of(trace, image_at(trace, count_images(trace) - 1))
        recovered = recover(left, layout, slots)
        self.assertEqual((recovered.heap, recovered.following), ((107, 0), number + 101))
        self.assertEqual(sum(count_by_prefix(trace)), count_images(trace))


if __name__ == "__main__":
    unittest.main()
