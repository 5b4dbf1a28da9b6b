"""[25]: images that the commands of others can leave, held against the times that they claim."""

import random
import unittest

from lastheap.errors import BadCount, BadLine, Large, Misfit, Other, Shape
from lastheap.images import count_images
from lastheap.lines import Fence, Flush, Layout, Store
from lastheap.ring import blank
from lastheap.running import Block, Out, Run, Sync
from lastheap.runtime import translate
from lastheap.strangers import wrong_image
from tests.memory_helpers import made_by_hand
from tests.second_rules import second_wrong_image
from tests.test_rules import RandomCase, changed

LAYOUT = Layout(4, [[0]])


def small_case(chance):
    """A random run of few images."""
    while True:
        case = RandomCase(chance, chance.choice([1, 1, 2, 2, 3]), (0, 3), (1, 3), 2, 0.3)
        if count_images(case.trace) <= 300:
            return case


def changed_times(chance, times, end):
    """The claimed times with some changes."""
    times = list(times)
    for at in range(len(times)):
        if chance.random() < 0.4:
            times[at] = chance.choice([-5, 0, end, end + 9, times[at] - 1, times[at] + 1, chance.randint(0, end)])
    if chance.random() < 0.2:
        chance.shuffle(times)
    return times


class SecondReadingTest(unittest.TestCase):
    def check(self, case, commands, made, passed):
        arguments = (case.run, case.layout, case.contents, case.slots, commands, made, passed)
        expected, many = second_wrong_image(*arguments)
        found = wrong_image(*arguments)
        self.assertEqual(found, expected)
        if found is not None:
            self.assertIs(type(found), tuple)
        return found

    def test_translated_runs(self):
        for seed in range(60):
            case = small_case(random.Random(seed))
            trace = case.trace
            self.assertIsNone(self.check(case, trace.commands, trace.made, trace.passed))

    def test_changed_times(self):
        wrong = 0
        fine = 0
        for seed in range(150):
            chance = random.Random(seed)
            case = small_case(chance)
            end = len(case.trace.commands)
            made = changed_times(chance, case.trace.made, end)
            passed = changed_times(chance, case.trace.passed, end)
            found = self.check(case, case.trace.commands, made, passed)
            wrong += found is not None
            fine += found is None
        self.assertGreater(wrong, 40)
        self.assertGreater(fine, 20)

    def test_changed_commands(self):
        wrong = 0
        fine = 0
        for seed in range(150):
            chance = random.Random(seed)
            case = small_case(chance)
            lines = len(case.layout.lines) + case.slots
            for _ in range(2):
                commands = changed(chance, case.trace.commands, case.layout, case.slots)
                there = all(
                    isinstance(command, Fence) or 0 <= command.line < lines and (
                        isinstance(command, Flush) or 0 <= command.word < case.layout.width)
                    for command in commands
                )
                if not there or count_images(made_by_hand(case.layout, case.slots, commands)) > 400:
                    continue
                made, passed = case.trace.made, case.trace.passed
                if chance.random() < 0.3:
                    made = changed_times(chance, made, len(commands))
                found = self.check(case, commands, made, passed)
                wrong += found is not None
                fine += found is None
        self.assertGreater(wrong, 50)
        self.assertGreater(fine, 20)


class ByHandTest(unittest.TestCase):
    """One place, a ring of two, and commands of a stranger that writes the log as the package does."""

    RUN = Run((0,), [Block([(0, 0, 5)]), Sync(), Block([(0, 5, 6)])], None)

    def setUp(self):
        self.trace = translate(self.RUN, LAYOUT, blank(LAYOUT, 2), 2)
        self.assertEqual((self.trace.made, self.trace.passed), ((5, 13), (8,)))

    def found(self, made, passed, commands=None):
        if commands is None:
            commands = self.trace.commands
        return wrong_image(self.RUN, LAYOUT, blank(LAYOUT, 2), 2, commands, made, passed)

    def test_claims_that_hold(self):
        self.assertIsNone(self.found([5, 13], [8]))
        self.assertIsNone(self.found((5, 13), (8,)))
        # Earlier times for blocks and later ones for the sync claim less.
        self.assertIsNone(self.found([0, 13], [8]))
        self.assertIsNone(self.found([-7, -9], [8]))
        self.assertIsNone(self.found([5, 13], [10 ** 40]))
        self.assertIsNone(self.found([13, 5], [8]))

    def test_a_block_that_is_claimed_too_late(self):
        self.assertEqual(self.found([6, 13], [8]), (0, 5, 0))
        self.assertEqual(self.found([5, 14], [8]), (0, 5, 5))
        self.assertEqual(self.found([10 ** 40, 10 ** 40], [8]), (0, 5, 0))

    def test_a_sync_that_is_claimed_too_early(self):
        # Up to the time 6 the image without any store is possible.
        self.assertIsNone(self.found([5, 13], [7]))
        self.assertEqual(self.found([5, 13], [6]), (0, 0, 0))
        self.assertEqual(self.found([5, 13], [-1]), (0, 0, 0))

    def test_an_image_that_loses_the_first_block(self):
        commands = [command for command in self.trace.commands if isinstance(command, Store)]
        self.assertEqual(self.found([5, 12], [6], commands), (0, 0, 0))
        self.assertIsNone(self.found([5, 11], [99], commands))
        self.assertEqual(self.found([5, 12], [99], commands), (0, 5, 5))

    def test_equal_heaps(self):
        # The third block brings back what was there, so that two numbers of blocks fit.
        run = Run((0,), [Block([(0, 0, 5)]), Block([(0, 5, 0)]), Sync()], None)
        commands = [Fence()]
        self.assertIsNone(wrong_image(run, LAYOUT, blank(LAYOUT, 1), 1, commands, [0, 0], [0]))
        self.assertEqual(wrong_image(run, LAYOUT, blank(LAYOUT, 1), 1, commands, [0, 1], [0]), (0, 0))
        self.assertEqual(wrong_image(run, LAYOUT, blank(LAYOUT, 1), 1, commands, [0, 2], [0]), (0, 0))
        self.assertIsNone(wrong_image(run, LAYOUT, blank(LAYOUT, 1), 1, commands, [0, 2], [2]))

    def test_the_last_sync_counts(self):
        def found(passed):
            return wrong_image(run, LAYOUT, [[5] + [0] * 3, [0] * 4], 1, [Store(0, 0, 5)], [0, 0], passed)

        run = Run((5,), [Sync(), Block([(0, 5, 6)]), Out(1), Block([(0, 6, 5)]), Sync()], None)
        self.assertIsNone(found([0, 0, 0]))
        self.assertIsNone(found([0, 1, 0]))
        self.assertIsNone(found([9, 9, 1]))
        self.assertIsNone(found([0, 9, 9]))
        self.assertIsNone(found([9, 0, 9]))
        run = Run((5,), [Block([(0, 5, 6)]), Sync(), Block([(0, 6, 7)]), Out(1)], None)
        self.assertEqual(found([0, 9]), (0, 0))
        self.assertEqual(found([1, 9]), (0, 0))
        self.assertEqual(found([9, 1]), (0, 0))
        self.assertIsNone(found([2, 2]))

    def test_no_commands(self):
        run = Run((0,), [], None)
        self.assertIsNone(wrong_image(run, LAYOUT, blank(LAYOUT, 1), 1, [], [], []))
        run = Run((0,), [Block([(0, 0, 5)])], None)
        self.assertIsNone(wrong_image(run, LAYOUT, blank(LAYOUT, 1), 1, [], [7], []))
        self.assertIsNone(wrong_image(run, LAYOUT, blank(LAYOUT, 1), 1, [], [-7], []))
        empty = Layout(4, [])
        self.assertIsNone(wrong_image(Run((), [Sync()], None), empty, blank(empty, 1), 1, [], [], [0]))

    def test_recovery_is_asked(self):
        # A stranger that stores directly, without a log, loses nothing if it has one block only.
        run = Run((0,), [Block([(0, 0, 5)])], None)
        commands = [Store(0, 0, 5), Flush(0), Fence()]
        self.assertIsNone(wrong_image(run, LAYOUT, blank(LAYOUT, 1), 1, commands, [1], []))
        self.assertEqual(wrong_image(run, LAYOUT, blank(LAYOUT, 1), 1, commands, [2], []), (1, 0))
        two = Layout(4, [[0], [1]])
        run = Run((0, 0), [Block([(0, 0, 5), (1, 0, 6)])], None)
        commands = [Store(0, 0, 5), Store(1, 0, 6)]
        self.assertEqual(wrong_image(run, two, blank(two, 1), 1, commands, [0], []), (1, 0, 0))


class ErrorsTest(unittest.TestCase):
    LAYOUT = Layout(4, [[1, 0], [2]])
    THREE = Block([(0, 0, 1), (1, 0, 1), (2, 0, 1)])
    RUN = Run((0, 0, 0), [THREE, Sync(), THREE, Out(1), Sync()], None)
    MANY = [Store(0, 0, at) for at in range(500)]

    def assert_refused(self, expected, run=RUN, contents=blank(LAYOUT, 1), slots=1, commands=(), made=(0, 0),
                       passed=(0, 0, 0)):
        with self.assertRaises(type(expected)) as caught:
            wrong_image(run, self.LAYOUT, contents, slots, commands, made, passed)
        self.assertEqual(vars(caught.exception), vars(expected))

    def test_those_of_translate(self):
        wrong = {"commands": [Flush(9)], "made": (), "passed": ()}
        self.assert_refused(Misfit(2), Run((1, 0), [], None), (), 0, **wrong)
        for slots in (0, 10, None, True, "1"):
            self.assert_refused(BadCount("slots", slots), Run((1, 0, 0), [], None), (), slots, **wrong)
        self.assert_refused(Shape(), Run((1, 0, 0), [], None), (), 1, **wrong)
        self.assert_refused(Other(0), Run((1, 0, 0), [self.THREE], None), **wrong)

    def test_no_wide(self):
        # The blocks need three log lines each, and there is one slot.
        self.assertIsNone(
            wrong_image(self.RUN, self.LAYOUT, blank(self.LAYOUT, 1), 1, [], (0, 0), (1, 1, 1))
        )

    def test_made_and_passed(self):
        bad = [Flush(9)]
        for made in ((), (0,), (0, 0, 0), [0] * 9):
            self.assert_refused(BadCount("made", len(made)), commands=bad, made=made, passed=())
        for passed in ((), (0, 0), [0] * 4):
            self.assert_refused(BadCount("passed", len(passed)), commands=bad, passed=passed)

    def test_lines(self):
        for wrong in (Flush(3), Flush(-1), Store(3, 0, 0), Store(-1, 0, 0), Store(0, 4, 0), Store(2, -1, 0)):
            for before in (0, 1, 3):
                commands = [Fence(), Flush(2), Store(2, 3, 9)][:before] + [wrong, Flush(99)]
                self.assert_refused(BadLine(before), commands=commands)
        self.assert_refused(BadLine(600), commands=self.MANY + [Fence()] * 100 + [Flush(3)])

    def test_large(self):
        self.assert_refused(Large(501), commands=self.MANY, passed=[9] * 3)
        self.assert_refused(Large(501), commands=self.MANY + self.MANY)
        self.assert_refused(Large(501), commands=self.MANY[:250] + [Store(1, 0, 1)])
        run = Run((0, 0, 0), [], None)
        self.assertEqual(
            wrong_image(run, self.LAYOUT, blank(self.LAYOUT, 1), 1, self.MANY[:499], [], []), (2, 0, 0)
        )
        self.assertIsNone(
            wrong_image(run, self.LAYOUT, blank(self.LAYOUT, 1), 1, [Store(0, 3, 1)] * 499, [], [])
        )
        self.assert_refused(Large(501), run=run, commands=[Store(0, 3, 1)] * 500, made=(), passed=())

    def test_arguments_stay_as_they_were(self):
        contents = [[0] * 4 for _ in range(3)]
        commands, made, passed = [Store(2, 0, 1), Flush(2)], [0, 0], [5, 6, 7]
        found = wrong_image(
            passed=passed, made=made, commands=commands, slots=1, contents=contents, layout=self.LAYOUT, run=self.RUN
        )
        self.assertIsNone(found)
        self.assertEqual((made, passed), ([0, 0], [5, 6, 7]))
        self.assertEqual(commands, [Store(2, 0, 1), Flush(2)])
        self.assertEqual(contents, [[0] * 4 for _ in range(3)])
        self.assertEqual(self.RUN, Run((0, 0, 0), [self.THREE, Sync(), self.THREE, Out(1), Sync()], None))
        self.assertIsNone(
            wrong_image(self.RUN, self.LAYOUT, tuple(contents), 1, tuple(commands), tuple(made), tuple(passed))
        )


if __name__ == "__main__":
    unittest.main()
