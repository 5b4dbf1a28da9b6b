"""[20]: recovery from any contents."""

import random
import unittest

from lastheap.errors import BadCount, Shape
from lastheap.lines import Layout, Store
from lastheap.recovery import Recovered, recover
from lastheap.ring import blank
from tests.memory_helpers import HEAD, head, log_line, random_layout
from tests.second_memory import second_recovery

WIDE = 2 ** 60
NO_SLOTS = (0, 10, -1, 10 ** 20, True, False, None, "2", 2.0, (2,))


def plain(recovered):
    stores = tuple((store.line, store.word, store.number) for store in recovered.stores)
    return (recovered.heap, stores, recovered.applied, recovered.following)


def second_change(chance, words, width):
    """A word or two of a line changed."""
    found = list(words)
    found[chance.randrange(width)] = chance.choice([0, 1, -1, 2, 5, WIDE, -found[0], found[0] + 1, found[0] - HEAD])
    return found


class RingCase(unittest.TestCase):
    """A heap of three places in two lines of four words, and slots behind them."""

    LAYOUT = Layout(4, [[1, 0], [2]])
    HEAP = [[10, 20, 7, 7], [30, 7, 7, 7]]

    def assert_recovered(self, expected, *ring):
        """The heap, the number of applied lines, and the following number."""
        contents = self.HEAP + list(ring)
        found = recover(contents, self.LAYOUT, len(ring))
        self.assertEqual((found.heap, found.applied, found.following), expected)
        self.assertEqual(plain(found), second_recovery(contents, self.LAYOUT, len(ring)))
        return found

    def line(self, number, first, mark=1, pair=(-1, 0)):
        return log_line(4, number, first, mark, pair)

    def begun(self, number, first, mark=1, pair=(-1, 0)):
        words = self.line(number, first, mark, pair)
        return [-words[0]] + words[1:]


class HeadsTest(RingCase):
    def test_no_head_counts(self):
        for ring in ([[0] * 4], [[0, 1, 0, 5]] * 3):
            found = self.assert_recovered(((20, 10, 30), 0, 0), *ring)
            self.assertEqual(found.stores, ())

    def test_one_complete_line(self):
        found = self.assert_recovered(((20, 99, 30), 1, 1), self.line(0, 0, 1, (1, 99)), [0] * 4)
        self.assertEqual(found.stores, (Store(0, 0, 99),))

    def test_a_begun_line(self):
        self.assert_recovered(((20, 10, 30), 0, 1), self.begun(0, 0, 1, (1, 99)), [0] * 4)
        self.assert_recovered(((20, 10, 30), 0, 6), [0] * 4, self.begun(5, 5, 1, (1, 99)))

    def test_wrong_slots(self):
        self.assert_recovered(((20, 10, 30), 0, 0), [0] * 4, self.line(0, 0, 1, (1, 99)))
        self.assert_recovered(((20, 10, 30), 0, 0), self.line(3, 3, 1, (1, 99)), [0] * 4)
        self.assert_recovered(((20, 99, 30), 1, 5), self.line(4, 4, 1, (1, 99)), [0] * 4)

    def test_a_run_that_begins_later_than_the_line(self):
        self.assert_recovered(((20, 10, 30), 0, 0), self.line(2, 3, 1, (1, 99)), [0] * 4)
        self.assert_recovered(((20, 99, 30), 1, 3), self.line(2, 2, 1, (1, 99)), [0] * 4)
        # The greatest first number that a head can hold.
        self.assert_recovered(((20, 10, 30), 0, 0), [HEAD, 1, 1, 99], [0] * 4)
        self.assert_recovered(((20, 10, 30), 0, 0), [3 * HEAD, 1, 1, 99], [0] * 4)

    def test_the_greatest_numbers(self):
        last = WIDE - 2
        self.assert_recovered(((20, 99, 30), 1, last + 1), self.line(last, last, 1, (1, 99)), [0] * 4)
        self.assert_recovered(((20, 99, 30), 1, WIDE), [0] * 4, self.line(WIDE - 1, WIDE - 1, 1, (1, 99)))
        self.assert_recovered(((20, 10, 30), 0, 0), self.line(WIDE, WIDE, 1, (1, 99)), [0] * 4)
        self.assert_recovered(((20, 10, 30), 0, 0), self.begun(WIDE, 0, 1, (1, 99)), [0] * 4)
        self.assert_recovered(((20, 10, 30), 0, 0), self.line(WIDE + 2, WIDE + 2, 1, (1, 99)), [0] * 4)
        self.assert_recovered(((20, 10, 30), 0, 0), [10 ** 50, 1, 1, 99], [-(10 ** 50), 0, 1, 99])

    def test_the_smallest_heads(self):
        self.assert_recovered(((20, 99, 30), 1, 1), [1, 1, 1, 99])
        self.assert_recovered(((20, 10, 30), 0, 1), [-1, 1, 1, 99])
        self.assert_recovered(((20, 10, 30), 0, 0), [2, 1, 1, 99])


class TakenTest(RingCase):
    def test_all_of_one_run(self):
        self.assert_recovered(
            ((1, 2, 3), 3, 3),
            self.line(0, 0, 1, (0, 1)), self.line(1, 0, 1, (1, 2)), self.line(2, 0, 1, (2, 3)), [0] * 4,
        )

    def test_only_the_last_ones_count(self):
        self.assert_recovered(
            ((1, 2, 3), 3, 6),
            self.line(3, 0, 1, (0, 1)), self.line(4, 0, 1, (1, 2)), self.line(5, 0, 1, (2, 3)),
        )
        self.assert_recovered(
            ((6, 5, 4), 3, 8),
            self.line(6, 0, 1, (1, 5)), self.line(7, 0, 1, (0, 6)), self.line(5, 0, 1, (2, 4)),
        )

    def test_a_line_that_is_begun_ends_them(self):
        self.assert_recovered(
            ((6, 10, 4), 2, 8),
            self.line(6, 0, 1, (0, 6)), self.begun(7, 0, 1, (1, 5)), self.line(5, 0, 1, (2, 4)),
        )
        # The first one is begun, so nothing is taken.
        self.assert_recovered(
            ((20, 10, 30), 0, 8),
            self.line(6, 0, 1, (0, 6)), self.line(7, 0, 1, (1, 5)), self.begun(5, 0, 1, (2, 4)),
        )

    def test_a_gap_ends_them(self):
        self.assert_recovered(
            ((1, 10, 30), 1, 3), self.line(0, 0, 1, (0, 1)), [0] * 4, self.line(2, 0, 1, (2, 3)),
        )
        self.assert_recovered(
            ((20, 10, 30), 0, 6), self.line(0, 0, 1, (0, 1)), self.line(4, 0, 1, (1, 5)), self.line(5, 0, 1, (2, 3)),
        )
        self.assert_recovered(
            ((1, 10, 30), 1, 6), self.line(3, 0, 1, (0, 1)), self.line(1, 0, 1, (1, 5)), self.line(5, 0, 1, (2, 3)),
        )

    def test_another_run(self):
        # The last head belongs to a run that began with line 4.
        self.assert_recovered(
            ((20, 5, 3), 2, 6), self.line(3, 0, 1, (0, 1)), self.line(4, 4, 1, (1, 5)), self.line(5, 4, 1, (2, 3)),
        )
        self.assert_recovered(
            ((20, 10, 3), 1, 6), self.line(3, 0, 1, (0, 1)), self.line(4, 3, 1, (1, 5)), self.line(5, 5, 1, (2, 3)),
        )
        # The same numbers, but of another run than the last head tells.
        self.assert_recovered(
            ((1, 10, 30), 1, 6), self.line(3, 3, 1, (0, 1)), self.line(4, 4, 1, (1, 5)), self.line(5, 3, 1, (2, 3)),
        )
        self.assert_recovered(
            ((20, 10, 30), 0, 6), self.line(3, 2, 1, (0, 1)), self.line(4, 0, 1, (1, 5)), self.line(5, 0, 1, (2, 3)),
        )

    def test_a_begun_line_tells_the_run(self):
        self.assert_recovered(
            ((20, 10, 30), 0, 6), self.line(3, 3, 1, (0, 1)), self.line(4, 3, 1, (1, 5)), self.begun(5, 5, 1, (2, 3)),
        )
        self.assert_recovered(
            ((1, 5, 30), 2, 6), self.line(3, 3, 1, (0, 1)), self.line(4, 3, 1, (1, 5)), self.begun(5, 3, 1, (2, 3)),
        )

    def test_one_slot(self):
        self.assert_recovered(((1, 10, 30), 1, 8), self.line(7, 0, 1, (0, 1)))
        self.assert_recovered(((20, 10, 30), 0, 8), self.line(7, 0, 0, (0, 1)))
        self.assert_recovered(((20, 10, 30), 0, 8), self.begun(7, 0, 1, (0, 1)))

    def test_nine_slots(self):
        ring = [self.line(9 + slot, 2, 1, (slot % 3, slot)) for slot in range(9)]
        self.assert_recovered(((6, 7, 8), 9, 18), *ring)
        ring[4] = self.line(4, 2, 1, (0, 99))
        self.assert_recovered(((3, 1, 2), 4, 18), *ring)
        ring[8] = self.line(8, 2, 1, (0, 99))
        self.assert_recovered(((3, 1, 2), 5, 17), *ring)
        ring[8] = self.line(8, 1, 1, (0, 99))
        self.assert_recovered(((20, 10, 30), 0, 17), *ring)


class AppliedTest(RingCase):
    def test_a_block_without_its_end(self):
        self.assert_recovered(((20, 10, 30), 0, 1), self.line(0, 0, 0, (0, 1)), [0] * 4)
        self.assert_recovered(
            ((1, 10, 30), 1, 3), self.line(0, 0, 1, (0, 1)), self.line(1, 0, 0, (1, 2)), self.line(2, 0, 0, (2, 3)),
        )
        self.assert_recovered(
            ((1, 2, 30), 2, 3), self.line(0, 0, 0, (0, 1)), self.line(1, 0, 1, (1, 2)), self.line(2, 0, 0, (2, 3)),
        )
        self.assert_recovered(
            ((1, 2, 3), 3, 3), self.line(0, 0, 0, (0, 1)), self.line(1, 0, 0, (1, 2)), self.line(2, 0, 1, (2, 3)),
        )

    def test_only_1_is_an_end(self):
        for mark in (0, 2, -1, WIDE, HEAD + 1):
            self.assert_recovered(((20, 10, 30), 0, 1), self.line(0, 0, mark, (0, 1)))

    def test_the_last_word_of_a_place(self):
        found = self.assert_recovered(
            ((20, 6, 30), 3, 3), self.line(0, 0, 1, (1, 4)), self.line(1, 0, 1, (1, 5)), self.line(2, 0, 1, (1, 6)),
        )
        self.assertEqual(found.stores, (Store(0, 0, 6),))

    def test_words_that_stand_there_already(self):
        found = self.assert_recovered(
            ((20, 10, 30), 2, 2), self.line(0, 0, 1, (2, 30)), self.line(1, 0, 1, (0, 20)), [0] * 4,
        )
        self.assertEqual(found.stores, (Store(0, 1, 20), Store(1, 0, 30)))

    def test_pairs_that_name_no_place(self):
        for place in (-1, 3, -3, -2, 4, WIDE, -(10 ** 40), 10 ** 40):
            found = self.assert_recovered(((20, 10, 30), 1, 1), self.line(0, 0, 1, (place, 5)), [0] * 4)
            self.assertEqual(found.stores, ())

    def test_several_pairs(self):
        layout = Layout(8, [[0], [1, 2]])
        ring = [log_line(8, 0, 0, 1, (1, 5), (7, 6), (1, 8)), log_line(8, 1, 0, 1, (-1, 3), (0, 2), (2, 4))]
        contents = [[9] * 8, [8] * 8] + ring
        found = recover(contents, layout, 2)
        self.assertEqual(plain(found), ((2, 8, 4), ((0, 0, 2), (1, 0, 8), (1, 1, 4)), 2, 2))

    def test_words_of_any_size(self):
        large = 10 ** 60
        found = recover([[large, -large, 0, 0], [5, 0, 0, 0], [1, 1, 2, -large]], self.LAYOUT, 1)
        self.assertEqual(plain(found), ((-large, large, -large), ((1, 0, -large),), 1, 1))

    def test_no_places(self):
        layout = Layout(4, [])
        self.assertEqual(plain(recover([[1, 1, 0, 5]], layout, 1)), ((), (), 1, 1))
        self.assertEqual(plain(recover(blank(layout, 3), layout, 3)), ((), (), 0, 0))


class ErrorsTest(RingCase):
    def refused(self, contents, layout, slots):
        try:
            recover(contents, layout, slots)
        except BadCount as error:
            return (error.what, error.count)
        except Shape:
            return "shape"
        return None

    def test_slots(self):
        for slots in NO_SLOTS:
            self.assertEqual(self.refused(blank(self.LAYOUT, 2), self.LAYOUT, slots), ("slots", slots))
            self.assertEqual(self.refused((), self.LAYOUT, slots), ("slots", slots))
        for slots in range(1, 10):
            self.assertIsNone(self.refused(blank(self.LAYOUT, slots), self.LAYOUT, slots))

    def test_shape(self):
        for slots in (1, 2, 8):
            right = [list(line) for line in blank(self.LAYOUT, slots)]
            self.assertIsNone(self.refused(right, self.LAYOUT, slots))
            self.assertEqual(self.refused(right[1:], self.LAYOUT, slots), "shape")
            self.assertEqual(self.refused(right + [[0] * 4], self.LAYOUT, slots), "shape")
            self.assertEqual(self.refused((), self.LAYOUT, slots), "shape")
            self.assertEqual(self.refused(None, self.LAYOUT, slots), "shape")
            self.assertEqual(self.refused([None] * (2 + slots), self.LAYOUT, slots), "shape")
            for line in range(2 + slots):
                for words in ([], [0] * 3, [0] * 5):
                    wrong = list(right)
                    wrong[line] = words
                    self.assertEqual(self.refused(wrong, self.LAYOUT, slots), "shape")

    def test_the_error_has_no_field(self):
        with self.assertRaises(Shape) as caught:
            recover([], self.LAYOUT, 1)
        self.assertEqual(vars(caught.exception), {})

    def test_lists_and_tuples(self):
        lists = self.HEAP + [self.line(0, 0, 1, (0, 5))]
        tuples = tuple(tuple(line) for line in lists)
        self.assertEqual(recover(lists, self.LAYOUT, 1), recover(tuples, self.LAYOUT, 1))
        self.assertEqual(recover(slots=1, layout=self.LAYOUT, contents=lists), recover(tuples, self.LAYOUT, 1))

    def test_nothing_changes(self):
        contents = [list(line) for line in self.HEAP] + [self.line(0, 0, 1, (0, 5))]
        before = [list(line) for line in contents]
        recover(contents, self.LAYOUT, 1)
        self.assertEqual(contents, before)


class RecoveredTest(unittest.TestCase):
    def test_fields(self):
        stores = [Store(0, 0, 1)]
        heap = [1, 2]
        recovered = Recovered(heap, stores, 3, 4)
        heap.append(3)
        stores.append(Store(0, 0, 2))
        self.assertEqual((recovered.heap, recovered.stores), ((1, 2), (Store(0, 0, 1),)))
        self.assertEqual((type(recovered.heap), type(recovered.stores)), (tuple, tuple))
        self.assertEqual((recovered.applied, recovered.following), (3, 4))
        self.assertEqual(Recovered(following=4, applied=3, stores=(Store(0, 0, 1),), heap=(1, 2)), recovered)

    def test_equality(self):
        made = [((1,), (), 0, 0), ((2,), (), 0, 0), ((1,), (Store(0, 0, 1),), 0, 0), ((1,), (Store(0, 0, 2),), 0, 0),
                ((1,), (), 1, 0), ((1,), (), 0, 1)]
        for left in made:
            for right in made:
                self.assertIs(Recovered(*left) == Recovered(*right), left == right)
            self.assertFalse(Recovered(*left) == left)


class AnyContentsTest(unittest.TestCase):
    def test_second_reading(self):
        seen = set()
        for seed in range(3000):
            chance = random.Random(seed)
            layout = random_layout(chance, chance.randint(0, 5))
            slots = chance.choice([1, 2, 3, 4, 9])
            contents = [[chance.choice([0, 1, 5, -2]) for _ in range(layout.width)] for _ in layout.lines]
            base = chance.choice([0, 0, 1, 7, WIDE - 6])
            run = base + chance.choice([0, 0, 1, 2])
            for slot in range(slots):
                number = base + (slot - base) % slots + slots * chance.choice([0, 0, 0, 1])
                pairs = [(chance.randint(-1, 5), chance.randint(-9, 9)) for _ in range(layout.width // 2 - 1)]
                first = chance.choice([run, run, run, run, number, base])
                words = log_line(layout.width, number, first, chance.choice([0, 1, 1, 1, 2]), *pairs)
                if chance.random() < 0.1:
                    words[0] = -words[0]
                if chance.random() < 0.1:
                    words = second_change(chance, words, layout.width)
                contents.append(words)
            found = plain(recover(contents, layout, slots))
            self.assertEqual(found, second_recovery(contents, layout, slots), seed)
            seen.add(found[2])
        self.assertLessEqual(set(range(7)), seen)

    def test_heads_one_apart(self):
        layout = Layout(4, [[0]])
        for number in (2, 3, 4, 5):
            for more in (-2, -1, 0, 1, 2):
                for sign in (-1, 1):
                    contents = [[0] * 4, [sign * (head(number, number) + more), 1, 0, 8], [0] * 4]
                    found = plain(recover(contents, layout, 2))
                    self.assertEqual(found, second_recovery(contents, layout, 2))
                    counts = number % 2 == 0 and more <= 0
                    self.assertEqual(found[3], number + 1 if counts else 0)


if __name__ == "__main__":
    unittest.main()
