"""[23]: how many blocks are settled, made, and survive."""

import random
import unittest

from lastheap.errors import NoImage, NoPlace
from lastheap.images import count_images, image_at, place_of
from lastheap.lines import Layout
from lastheap.prefixes import count_by_prefix, image_with, prefix_of, staircase
from lastheap.recovery import recover
from lastheap.ring import blank
from lastheap.running import Block, Run, Sync
from lastheap.runtime import translate
from tests.memory_helpers import random_cut, random_layout, random_run
from tests.second_memory import images_in_order, made_count, sure_count

LAYOUT = Layout(4, [[0], [1]])


def translated(events, slots, layout=LAYOUT):
    many = sum(len(line) for line in layout.lines)
    return translate(Run((0,) * many, events, None), layout, blank(layout, slots), slots)


def log_lines(trace, run):
    """For each block its log lines, as pairs of the line of the memory and the number of stores up to its end."""
    room = trace.layout.width // 2 - 1
    number = trace.first
    found = []
    for block in [event for event in run.events if isinstance(event, Block)]:
        lines = []
        for _ in range(-(-len(block.changes) // room)):
            before = len([one for one in range(trace.first, number) if one % trace.slots == number % trace.slots])
            line = len(trace.layout.lines) + number % trace.slots
            lines.append((line, (before + 1) * (trace.layout.width + 1)))
            number += 1
        found.append(lines)
    return found


def first_blocks(lines, numbers):
    """The number of blocks before that of the first log line that these numbers of stores do not complete."""
    for block, own in enumerate(lines):
        if any(numbers[line] < least for line, least in own):
            return block
    return len(lines)


def small_traces():
    """Traces with few images, and their runs; also behind cuts."""
    for seed in range(60):
        chance = random.Random(seed)
        layout = random_layout(chance, chance.randint(1, 4), (4, 4, 4, 6))
        slots = chance.choice([1, 1, 2, 2, 3])
        contents = blank(layout, slots)
        for _ in range(2):
            room = slots * (layout.width // 2 - 1)
            start = recover(contents, layout, slots).heap
            run = random_run(chance, start, chance.randint(0, 4), min(room, 2), 0.2)
            trace = translate(run, layout, contents, slots)
            if count_images(trace) < 600:
                yield trace, run
            contents = random_cut(chance, trace)


class SmallTracesTest(unittest.TestCase):
    def test_staircase(self):
        for trace, run in small_traces():
            lines = log_lines(trace, run)
            expected = []
            for time in range(len(trace.commands) + 1):
                all_lines = range(len(trace.layout.lines) + trace.slots)
                sure = [sure_count(trace.commands, line, time) for line in all_lines]
                made = [made_count(trace.commands, line, time) for line in all_lines]
                expected.append((first_blocks(lines, sure), first_blocks(lines, made)))
            self.assertEqual(staircase(trace), expected)
            for time, (_, made) in enumerate(expected):
                self.assertEqual(made, len([one for one in trace.made if one <= time]))

    def test_all_images(self):
        many = 0
        for trace, run in small_traces():
            lines = log_lines(trace, run)
            counts = [0] * (len(lines) + 1)
            first = [None] * (len(lines) + 1)
            for image, _ in images_in_order(trace.commands, len(trace.layout.lines) + trace.slots):
                prefix = first_blocks(lines, image)
                self.assertEqual(prefix_of(trace, image), prefix)
                counts[prefix] += 1
                if first[prefix] is None:
                    first[prefix] = image
            self.assertEqual(count_by_prefix(trace), counts)
            self.assertEqual([image_with(trace, prefix) for prefix in range(len(counts))], first)
            many += sum(counts)
        self.assertGreater(many, 5000)


class ByHandTest(unittest.TestCase):
    def test_one_block(self):
        trace = translated([Block([(0, 0, 5)])], 2)
        self.assertEqual(staircase(trace), [(0, 0)] * 5 + [(0, 1)])
        self.assertEqual(count_by_prefix(trace), [5, 1])
        self.assertEqual([image_with(trace, prefix) for prefix in (0, 1)], [(0, 0, 0, 0), (0, 0, 5, 0)])

    def test_no_block(self):
        for events in ([], [Sync()]):
            trace = translated(events, 2)
            self.assertEqual(staircase(trace), [(0, 0)])
            self.assertEqual(count_by_prefix(trace), [1])
            self.assertEqual(prefix_of(trace, (0, 0, 0, 0)), 0)
            self.assertEqual(image_with(trace, 0), (0, 0, 0, 0))

    def test_stores_of_a_recovery(self):
        layout = Layout(4, [[0]])
        contents = [[3, 0, 0, 0], [1, 1, 0, 5]]
        trace = translate(Run((5,), [], None), layout, contents, 1)
        self.assertEqual(staircase(trace), [(0, 0), (0, 0)])
        self.assertEqual(count_by_prefix(trace), [2])
        self.assertEqual(image_with(trace, 0), (0, 0))
        trace = translate(Run((5,), [Block([(0, 5, 6)])], None), layout, contents, 1)
        self.assertEqual(count_by_prefix(trace), [2 + 4, 1])
        self.assertEqual(image_with(trace, 1), (1, 5))

    def test_a_later_line_that_is_complete(self):
        # The second log line is durable, but the first one is not.
        trace = translated([Block([(0, 0, 1)]), Block([(1, 0, 2)])], 2)
        self.assertEqual(prefix_of(trace, (0, 0, 4, 5)), 0)
        self.assertEqual(prefix_of(trace, (0, 0, 5, 4)), 1)
        self.assertEqual(prefix_of(trace, [0, 0, 5, 5]), 2)
        self.assertEqual(count_by_prefix(trace), [5 + 5 * 5, 1 + 4, 1])

    def test_half_a_block(self):
        trace = translated([Block([(0, 0, 1), (1, 0, 2)])], 2)
        self.assertEqual(prefix_of(trace, (0, 0, 5, 4)), 0)
        self.assertEqual(prefix_of(trace, (0, 0, 5, 5)), 1)
        self.assertEqual(count_by_prefix(trace), [35, 1])

    def test_lines_that_are_taken_away(self):
        trace = translated([Block([(0, 0, 1)]), Block([(1, 0, 2)])], 1)
        # Two fences stand between them; while line 1 is written, line 0 counts as complete.
        for more in range(5):
            self.assertEqual(prefix_of(trace, (1, 0, 5 + more)), 1)
        self.assertEqual(prefix_of(trace, (1, 0, 10)), 2)
        self.assertEqual(count_by_prefix(trace), [5, 1 + 1 + 4, 1])
        self.assertEqual(
            staircase(trace), [(0, 0)] * 5 + [(0, 1)] * 2 + [(1, 1)] * 8 + [(1, 2)]
        )

    def test_not_possible(self):
        trace = translated([Block([(0, 0, 1)]), Sync()], 1)
        self.assertEqual(prefix_of(trace, (0, 0, 4)), 0)
        self.assertIsNone(prefix_of(trace, (1, 0, 4)))
        self.assertEqual(prefix_of(trace, (1, 0, 5)), 1)

    def test_kinds_of_what_is_returned(self):
        trace = translated([Block([(0, 0, 1)]), Sync()], 1)
        self.assertEqual((type(staircase(trace)), type(staircase(trace)[0])), (list, tuple))
        self.assertIs(type(count_by_prefix(trace)), list)
        self.assertIs(type(image_with(trace, 1)), tuple)
        self.assertEqual(staircase(trace=trace), staircase(trace))
        self.assertEqual(count_by_prefix(trace=trace), count_by_prefix(trace))
        self.assertEqual(prefix_of(image=[0, 0, 0], trace=trace), 0)
        self.assertEqual(image_with(prefix=0, trace=trace), (0, 0, 0))

    def test_no_image(self):
        trace = translated([Block([(0, 0, 1)])], 1)
        for wrong in ((), (0, 0), (0, 0, 0, 0), (0, 0, 6), (0, 1, 0), (0, 0, -1), (0, 0, True), (0, 0, None), None, 3):
            with self.assertRaises(NoImage):
                prefix_of(trace, wrong)

    def test_no_place(self):
        trace = translated([Block([(0, 0, 1)]), Block([(0, 1, 0)])], 2)
        for wrong in (-1, 3, 4, 10 ** 30, True, False, None, "1", 1.0, (1,)):
            with self.assertRaises(NoPlace) as caught:
                image_with(trace, wrong)
            self.assertIs(caught.exception.place, wrong)
        for right in (0, 1, 2):
            self.assertEqual(prefix_of(trace, image_with(trace, right)), right)


class LargeTracesTest(unittest.TestCase):
    def test_sums(self):
        for seed in range(40):
            chance = random.Random(seed)
            layout = random_layout(chance, chance.randint(1, 12))
            slots = chance.choice([1, 2, 4, 9])
            contents = blank(layout, slots)
            for _ in range(2):
                room = slots * (layout.width // 2 - 1)
                start = recover(contents, layout, slots).heap
                run = random_run(chance, start, 20, min(room, 4), 0.1)
                trace = translate(run, layout, contents, slots)
                counts = count_by_prefix(trace)
                many = count_images(trace)
                self.assertEqual(sum(counts), many)
                self.assertEqual(len(counts), 21)
                self.assertGreater(min(counts), 0)
                for prefix in (0, 1, 10, 19, 20):
                    image = image_with(trace, prefix)
                    self.assertEqual(prefix_of(trace, image), prefix)
                    # None of the images just before it in the order leads to so many blocks.
                    place = place_of(trace, image)
                    for before in range(max(0, place - 20), place):
                        self.assertNotEqual(prefix_of(trace, image_at(trace, before)), prefix)
                contents = random_cut(chance, trace)


if __name__ == "__main__":
    unittest.main()
