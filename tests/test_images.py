"""[15], [21] and [22]: contents of images, times, numbers and order of possible images."""

import itertools
import random
import unittest

from lastheap.errors import NoImage, NoPlace
from lastheap.images import contents_of, count_images, cut_times, image_at, place_of
from lastheap.lines import Fence, Flush, Layout, Store
from lastheap.ring import blank
from lastheap.running import Block, Run, Sync
from lastheap.runtime import translate
from tests.memory_helpers import made_by_hand, random_commands
from tests.second_memory import images_in_order

LAYOUT = Layout(4, [[0]])


def store(line, number=1, word=0):
    return Store(line, word, number)


def trace_of(*commands, slots=1):
    return made_by_hand(LAYOUT, slots, commands)


class OrderTest(unittest.TestCase):
    def assert_images(self, expected, *commands, slots=1):
        trace = trace_of(*commands, slots=slots)
        self.assertEqual(count_images(trace), len(expected))
        self.assertEqual([image_at(trace, place) for place in range(len(expected))], expected)
        self.assertEqual([place_of(trace, image) for image in expected], list(range(len(expected))))

    def test_no_commands(self):
        self.assert_images([(0, 0)])
        self.assert_images([(0, 0, 0)], slots=2)
        self.assert_images([(0, 0)], Fence(), Flush(0), Fence(), Flush(1))

    def test_stores_of_one_line(self):
        self.assert_images([(0, 0), (1, 0), (2, 0)], store(0), store(0))

    def test_stores_of_two_lines(self):
        self.assert_images([(0, 0), (1, 0), (0, 1), (1, 1)], store(0), store(1))
        self.assert_images([(0, 0), (0, 1), (1, 0), (1, 1)], store(1), store(0))
        self.assert_images(
            [(0, 0), (0, 1), (1, 0), (1, 1), (0, 2), (1, 2), (2, 0), (2, 1), (2, 2)],
            store(1), store(0), store(1), store(0),
        )

    def test_tuples_after_latest_stores(self):
        # The latest store is that of line 2; the others go as tuples.
        self.assert_images(
            [(0, 0, 0), (1, 0, 0), (0, 1, 0), (1, 1, 0), (0, 0, 1), (0, 1, 1), (1, 0, 1), (1, 1, 1)],
            store(0), store(1), store(2), slots=2,
        )

    def test_a_flush_needs_a_fence(self):
        both = [(0, 0), (1, 0), (0, 1), (1, 1)]
        self.assert_images(both, store(0), Flush(0), store(1))
        self.assert_images(both, store(0), Fence(), store(1))
        self.assert_images(both, store(0), Fence(), Flush(0), store(1))
        self.assert_images(both, Flush(0), store(0), Fence(), store(1))
        self.assert_images(both, store(0), Flush(1), Fence(), store(1))
        self.assert_images([(0, 0), (1, 0), (1, 1)], store(0), Flush(0), Fence(), store(1))
        self.assert_images([(0, 0), (1, 0), (1, 1)], store(0), Flush(0), Fence(), Fence(), store(1))

    def test_a_flush_is_for_the_stores_before_it(self):
        self.assert_images(
            [(0, 0), (1, 0), (2, 0), (1, 1), (2, 1)], store(0), Flush(0), store(0), Fence(), store(1)
        )

    def test_images_of_a_time_before_a_fence(self):
        # (0, 1) is possible only before the fence.
        trace = trace_of(store(0), store(1), Flush(0), Fence(), store(0))
        self.assertEqual(cut_times(trace, (0, 1)), (2, 3))
        self.assertEqual(cut_times(trace, (0, 0)), (0, 3))
        self.assertEqual(cut_times(trace, (1, 0)), (1, 5))
        self.assertEqual(cut_times(trace, (1, 1)), (2, 5))
        self.assertEqual(cut_times(trace, (2, 0)), (5, 5))
        self.assertEqual(count_images(trace), 6)

    def test_not_possible(self):
        trace = trace_of(store(0), Flush(0), Fence(), store(1))
        self.assertIsNone(cut_times(trace, (0, 1)))
        self.assertIsNone(place_of(trace, (0, 1)))
        self.assertEqual(cut_times(trace, [1, 1]), (4, 4))
        self.assertEqual(cut_times(trace, [0, 0]), (0, 2))

    def test_a_cut_at_the_last_time(self):
        trace = trace_of(store(0), Flush(0), Fence())
        self.assertEqual(cut_times(trace, (0, 0)), (0, 2))
        self.assertEqual(cut_times(trace, (1, 0)), (1, 3))

    def test_kinds_of_what_is_returned(self):
        trace = trace_of(store(0), store(1))
        self.assertIs(type(image_at(trace, 2)), tuple)
        self.assertIs(type(cut_times(trace, [1, 0])), tuple)
        self.assertEqual(image_at(place=3, trace=trace), (1, 1))
        self.assertEqual(place_of(image=[1, 1], trace=trace), 3)
        self.assertEqual(cut_times(image=[1, 1], trace=trace), (2, 2))
        self.assertEqual(count_images(trace=trace), 4)
        self.assertEqual(contents_of(image=[1, 1], trace=trace), contents_of(trace, (1, 1)))


class AllImagesTest(unittest.TestCase):
    """Small traces, against all numbers at all times."""

    def compare(self, trace):
        lines = len(trace.layout.lines) + trace.slots
        expected = images_in_order(trace.commands, lines)
        self.assertEqual(count_images(trace), len(expected))
        possible = {}
        for place, (image, times) in enumerate(expected):
            self.assertEqual(image_at(trace, place), image)
            self.assertEqual(place_of(trace, image), place)
            self.assertEqual(place_of(trace, list(image)), place)
            self.assertEqual(cut_times(trace, image), (times[0], times[-1]))
            self.assertEqual(times, list(range(times[0], times[-1] + 1)))
            possible[image] = True
        made = [sum(isinstance(one, Store) and one.line == line for one in trace.commands) for line in range(lines)]
        for image in itertools.product(*[range(number + 1) for number in made]):
            if image not in possible:
                self.assertIsNone(cut_times(trace, image))
                self.assertIsNone(place_of(trace, image))
        for wrong in (-1, len(expected)):
            with self.assertRaises(NoPlace):
                image_at(trace, wrong)

    def test_any_commands(self):
        for seed in range(150):
            chance = random.Random(seed)
            layout = Layout(4, [[place] for place in range(chance.randint(0, 2))])
            slots = chance.randint(1, 2)
            fences, flushes = chance.choice([(0.2, 0.3), (0, 0.4), (0.4, 0), (0, 0), (0.15, 0.25), (0.3, 0.5)])
            commands = random_commands(chance, layout, slots, chance.randint(0, 12), fences, flushes)
            self.compare(made_by_hand(layout, slots, commands))

    def test_translated_runs(self):
        layout = Layout(4, [[0], [1]])
        for events in (
            [Block([(0, 0, 1)]), Block([(1, 0, 2)]), Block([(0, 1, 3)])],
            [Block([(0, 0, 1)]), Sync(), Block([(0, 1, 3), (1, 0, 2)])],
        ):
            run = Run((0, 0), events, None)
            for slots in (2, 3):
                self.compare(translate(run, layout, blank(layout, slots), slots))


class ContentsTest(unittest.TestCase):
    def test_first_stores(self):
        start = [[9, 8, 7, 6], [5, 4, 3, 2]]
        commands = [Store(1, 0, 10), Store(0, 2, 20), Fence(), Store(1, 0, 11), Flush(0), Store(1, 3, 12)]
        trace = made_by_hand(LAYOUT, 1, commands, start)
        self.assertEqual(contents_of(trace, (0, 0)), ((9, 8, 7, 6), (5, 4, 3, 2)))
        self.assertEqual(contents_of(trace, [1, 0]), ((9, 8, 20, 6), (5, 4, 3, 2)))
        self.assertEqual(contents_of(trace, (0, 1)), ((9, 8, 7, 6), (10, 4, 3, 2)))
        self.assertEqual(contents_of(trace, (1, 2)), ((9, 8, 20, 6), (11, 4, 3, 2)))
        self.assertEqual(contents_of(trace, (1, 3)), ((9, 8, 20, 6), (11, 4, 3, 12)))
        self.assertEqual(trace.start, ((9, 8, 7, 6), (5, 4, 3, 2)))

    def test_kinds_of_what_is_returned(self):
        found = contents_of(trace_of(store(0)), (1, 0))
        self.assertIs(type(found), tuple)
        self.assertEqual([type(line) for line in found], [tuple, tuple])

    def test_also_images_that_are_not_possible(self):
        trace = trace_of(store(0, 4), Flush(0), Fence(), store(1, 5))
        self.assertEqual(contents_of(trace, (0, 1)), ((0, 0, 0, 0), (5, 0, 0, 0)))


class NoImageTest(unittest.TestCase):
    TRACE = trace_of(store(0), store(1), store(1))

    def test_what_is_no_image(self):
        for call in (contents_of, cut_times, place_of):
            for wrong in (
                (), (0,), (0, 0, 0), (-1, 0), (0, -1), (2, 0), (0, 3), (10 ** 30, 0), (0, True), (False, 0), (None, 0),
                (0, "1"), (0, 1.0), ((0,), 0), None, 5, True, "00", "ab", {0: 1, 1: 2}, {0, 1},
            ):
                with self.assertRaises(NoImage, msg=(call, wrong)) as caught:
                    call(self.TRACE, wrong)
                self.assertEqual(vars(caught.exception), {})
            for right in ((0, 0), (1, 2), [1, 0], [0, 2]):
                call(self.TRACE, right)

    def test_no_place(self):
        for wrong in (-1, 6, 7, 10 ** 40, True, False, None, "1", 1.0, (1,)):
            with self.assertRaises(NoPlace) as caught:
                image_at(self.TRACE, wrong)
            self.assertIs(caught.exception.place, wrong)
        self.assertEqual([image_at(self.TRACE, place) for place in (0, 5)], [(0, 0), (1, 2)])

    def test_nothing_changes(self):
        image = [1, 2]
        contents_of(self.TRACE, image)
        cut_times(self.TRACE, image)
        place_of(self.TRACE, image)
        self.assertEqual(image, [1, 2])
        self.assertEqual(self.TRACE, trace_of(store(0), store(1), store(1)))


if __name__ == "__main__":
    unittest.main()
