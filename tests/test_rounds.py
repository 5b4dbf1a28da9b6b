"""[28]: numbers of fences of blocks that are done again and again."""

import random
import time
import unittest

from lastheap.errors import BadCount, Wide
from lastheap.lines import Layout
from lastheap.ring import blank
from lastheap.rounds import fences_of_rounds
from lastheap.running import Block, Run
from lastheap.runs import fences
from lastheap.runtime import translate

NO_NUMBERS = (True, False, None, "4", 4.0, [4], (4,))


def written_out(blocks, rounds):
    """The run in which these blocks are done so many times; each change adds one."""
    many = max(place for block in blocks for place in block) + 1
    heap = [0] * many
    events = []
    for _ in range(rounds):
        for block in blocks:
            events.append(Block([(place, heap[place], heap[place] + 1) for place in block]))
            for place in block:
                heap[place] += 1
    return Run((0,) * many, events, None)


def layout_of(run, width):
    many = len(run.start)
    return Layout(width, [range(at, min(at + width, many)) for at in range(0, many, width)])


class RoundsTest(unittest.TestCase):
    def check(self, blocks, width, slots, rounds):
        run = written_out(blocks, rounds)
        expected = fences(run, layout_of(run, width), slots)
        self.assertEqual(fences_of_rounds(blocks, width, slots, rounds), expected, (blocks, width, slots, rounds))

    def test_one_block_of_one_place(self):
        for slots in range(1, 10):
            for rounds in range(0, 40):
                self.check([[0]], 4, slots, rounds)
        self.assertEqual(fences_of_rounds([[0]], 4, 2, 10), 8)
        self.assertEqual(fences_of_rounds([[0]], 4, 3, 10 ** 30), 499999999999999999999999999999)

    def test_each_width_and_number_of_slots(self):
        blocks = [[0], [1, 2, 3], [0, 4], [2, 5, 6, 7]]
        for width in (4, 6, 8, 10, 12):
            for slots in range(1, 10):
                if slots * (width // 2 - 1) >= 4:
                    for rounds in (0, 1, 2, 3, 7, 24):
                        self.check(blocks, width, slots, rounds)

    def test_any_blocks(self):
        for seed in range(150):
            chance = random.Random(seed)
            width = chance.choice([4, 4, 6, 8, 12])
            slots = chance.randint(1, 9)
            room = slots * (width // 2 - 1)
            many = chance.choice([1, 2, 4, 12])
            places = chance.choice([2, 4, 30])
            blocks = [
                sorted(chance.sample(range(places), min(places, chance.randint(1, min(room, chance.choice([2, 6]))))))
                for _ in range(chance.randint(1, many))
            ]
            for rounds in range(0, 6):
                self.check(blocks, width, slots, rounds)
            self.check(blocks, width, slots, chance.randint(6, 30))

    def test_every_number_of_rounds_up_to_some_dozens(self):
        for blocks, width, slots in (
            ([[0], [1]], 4, 3), ([[0], [0], [1]], 4, 2), ([[0, 1], [1, 2], [0, 2]], 4, 5), ([[0, 1, 2]], 4, 3),
            ([[0, 1, 2], [3]], 4, 4), ([[0], [1], [2], [3], [4]], 4, 7),
        ):
            for rounds in range(0, 45):
                self.check(blocks, width, slots, rounds)

    def test_different_places_of_one_log_line_each(self):
        for slots in range(1, 10):
            for many in range(1, 13):
                blocks = [[3 * place] for place in range(many)]
                self.assertEqual(fences_of_rounds(blocks, 4, slots, 1), 2 * ((many - 1) // slots))
                self.assertEqual(fences_of_rounds(blocks, 4, slots, 0), 0)

    def test_far_places_and_tuples(self):
        far = 10 ** 30
        self.assertEqual(
            fences_of_rounds(((far, far + 5), (0, far)), 4, 2, 25), fences_of_rounds([[1, 2], [0, 1]], 4, 2, 25)
        )

    def test_very_many_rounds(self):
        for seed in range(30):
            chance = random.Random(seed)
            slots = chance.randint(1, 9)
            blocks = [sorted(chance.sample(range(6), min(slots, chance.choice([1, 1, 2])))) for _ in range(seed % 12 + 1)]
            run = written_out(blocks, 70)
            layout = layout_of(run, 4)
            reasons = translate(run, layout, blank(layout, slots), slots).reasons
            # As many log lines as places, since the width is four; each fence is made before one of them.
            each = sum(len(block) for block in blocks)
            counts = [sum(line < each * rounds for _, line in reasons) for rounds in range(70)]
            # Behind some first rounds the numbers grow evenly, with some number of rounds as the step.
            step = min(
                step for step in range(1, 40)
                if len({counts[at + step] - counts[at] for at in range(20, 70 - step)}) == 1
            )
            gained = counts[20 + step] - counts[20]
            for rounds in (69, 1000, 10 ** 6, 10 ** 30, 10 ** 30 - 1, 123456789012345678901234567):
                turns, left = divmod(rounds - 20, step)
                expected = counts[20 + left] + turns * gained
                self.assertEqual(fences_of_rounds(blocks, 4, slots, rounds), expected)

    def test_a_million_rounds_in_a_few_seconds(self):
        begun = time.process_time()
        # Twelve blocks of up to sixty places do not fit into nine slots, unless they have 45 places at most.
        shared = [list(range(at, at + 45)) for at in range(12)]
        apart = [list(range(100 * at, 100 * at + 45)) for at in range(12)]
        narrow = [[place] for place in range(12)]
        for blocks, width, slots in ((shared, 12, 9), (apart, 12, 9), (narrow, 4, 9), (narrow, 4, 1)):
            for rounds in (10 ** 6, 10 ** 30):
                found = fences_of_rounds(blocks, width, slots, rounds)
                self.assertGreater(found, rounds)
        self.assertEqual(fences_of_rounds(narrow, 4, 1, 10 ** 30), 2 * (12 * 10 ** 30 - 1))
        self.assertEqual(fences_of_rounds(narrow, 4, 9, 10 ** 6), 2 * ((12 * 10 ** 6 - 1) // 9))
        self.assertEqual(fences_of_rounds(narrow, 4, 9, 10 ** 30), 2 * ((12 * 10 ** 30 - 1) // 9))
        self.assertLess(time.process_time() - begun, 10)

    def test_arguments_stay_as_they_were(self):
        blocks = [[0, 1], [2]]
        self.assertEqual(fences_of_rounds(rounds=5, slots=2, width=4, blocks=blocks), fences_of_rounds(((0, 1), (2,)), 4, 2, 5))
        self.assertEqual(blocks, [[0, 1], [2]])


class ErrorsTest(unittest.TestCase):
    def assert_refused(self, expected, *arguments):
        with self.assertRaises(type(expected)) as caught:
            fences_of_rounds(*arguments)
        self.assertEqual(vars(caught.exception), vars(expected))

    def test_blocks(self):
        self.assert_refused(BadCount("blocks", 0), [], 0, 0, -1)
        self.assert_refused(BadCount("blocks", 13), [[]] * 13, 0, 0, -1)
        self.assert_refused(BadCount("blocks", 13), [[0]] * 13, 4, 1, 1)
        self.assertEqual(fences_of_rounds([[0]] * 12, 4, 1, 1), 22)

    def test_block(self):
        long = list(range(61))
        self.assert_refused(BadCount("block", 0), [[], long], 0, 0, -1)
        self.assert_refused(BadCount("block", 1), [[0], long, []], 0, 0, -1)
        self.assert_refused(BadCount("block", 2), [[0], long[1:], ()], 0, 0, -1)
        self.assert_refused(BadCount("block", 11), [[0]] * 11 + [long], 4, 1, 1)

    def test_width(self):
        for width in (0, 2, 3, 5, 7, 11, 13, 14, -4, 10 ** 20) + NO_NUMBERS:
            self.assert_refused(BadCount("width", width), [[0, 1]], width, 0, -1)

    def test_slots(self):
        for slots in (0, 10, -1, 10 ** 20) + NO_NUMBERS[:3] + ("1",):
            self.assert_refused(BadCount("slots", slots), [[0, 1]], 4, slots, -1)

    def test_rounds(self):
        for rounds in (-1, 10 ** 30 + 1, -10 ** 40, 10 ** 40) + NO_NUMBERS:
            self.assert_refused(BadCount("rounds", rounds), [[0, 1]], 4, 1, rounds)
        self.assertEqual(fences_of_rounds([[0]], 4, 9, 10 ** 30 - 1) > 0, True)

    def test_wide(self):
        for rounds in (0, 1, 5, 10 ** 30):
            self.assert_refused(Wide(2), [[0, 1]], 4, 1, rounds)
            self.assert_refused(Wide(3), [[0], [1, 2, 3], [1, 2, 3, 4]], 4, 2, rounds)
            self.assert_refused(Wide(12), [list(range(60))], 12, 9, rounds)
            self.assert_refused(Wide(10), [[0], list(range(46))], 12, 9, rounds)
        self.assertEqual(fences_of_rounds([list(range(45))], 12, 9, 1), 0)


if __name__ == "__main__":
    unittest.main()
