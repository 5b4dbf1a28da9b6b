"""[30] and [34]: sessions."""

import random
import unittest

from lastheap.errors import BadCount, Busy, Faulty, Idle, Misfit, NoBack, NoImage, Wide
from lastheap.heaps import empty_heap
from lastheap.images import count_images, image_at
from lastheap.judging import judge
from lastheap.lines import Layout, packed, spread
from lastheap.prefixes import image_with
from lastheap.reader import read_program
from lastheap.ring import blank
from lastheap.running import heaps, plain_run
from lastheap.runtime import translate
from lastheap.session import Session
from tests.random_programs import Maker
from tests.session_helpers import (
    COUNTER, IDLE, PAIR, PROGRAMS, STACK, TALKER, SecondSession, blocks_of, heap_left, possible, some_image,
)


def session_of(text, width=4, slots=2):
    program = read_program(text)
    return Session(program, packed(program, width), slots)


def state_of(session):
    """All that a session tells."""
    try:
        current = (session.run(), session.trace())
    except Idle:
        current = None
    return (session.now(), session.history(), session.many(), current)


class SessionCase(unittest.TestCase):
    def assert_refused(self, expected, session, method, *arguments):
        """The method raises this error, and nothing changes."""
        before = state_of(session)
        with self.assertRaises(type(expected)) as caught:
            getattr(session, method)(*arguments)
        self.assertIs(type(caught.exception), type(expected))
        self.assertEqual(vars(caught.exception), vars(expected))
        self.assertEqual(state_of(session), before)

    def assert_same(self, session, second):
        _, ended, current = second.states[-1]
        self.assertEqual(session.now(), second.now())
        self.assertIs(type(session.now()), tuple)
        self.assertEqual(session.history(), ended)
        self.assertEqual(session.many(), len(second.states) - 1)
        if current is None:
            for method in (session.run, session.trace, session.finish):
                with self.assertRaises(Idle):
                    method()
        else:
            self.assertEqual((session.run(), session.trace()), current[1:])


class ByHandTest(SessionCase):
    def test_a_new_session(self):
        session = session_of(STACK)
        self.assertEqual(session.now(), (0,) * 8)
        self.assertEqual(session.history(), [])
        self.assertEqual(session.many(), 0)

    def test_a_run_that_is_cut(self):
        session = session_of(COUNTER)
        run = session.begin([5])
        self.assertEqual(heaps(run), [(0,), (5,), (6,)])
        self.assertEqual((session.now(), session.history(), session.many()), ((0,), [], 1))
        self.assertEqual(session.run(), run)
        self.assertEqual(session.cut((0, 5, 3)), 1)
        self.assertEqual((session.now(), session.history(), session.many()), ((5,), [((5,), 1)], 2))

    def test_a_run_that_is_finished(self):
        session = session_of(COUNTER)
        session.begin((5,))
        self.assertEqual(session.finish(), 2)
        self.assertEqual((session.now(), session.history(), session.many()), ((6,), [((5,), 2)], 2))

    def test_runs_go_on_from_there(self):
        session = session_of("var x: word; main(n: word) { x = x + n; out x; x = x + n; }")
        outs = []
        for number in (1, 10, 100):
            run = session.begin([number])
            outs.append(run.events[1].word)
            session.finish()
        self.assertEqual(outs, [1, 12, 122])
        self.assertEqual(session.now(), (222,))
        self.assertEqual(session.history(), [((1,), 2), ((10,), 2), ((100,), 2)])
        session.begin([1000])
        self.assertEqual(session.cut(image_with(session.trace(), 1)), 1)
        self.assertEqual(session.now(), (1222,))
        self.assertEqual(session.begin([5]).start, (1222,))

    def test_a_cut_within_the_recovery(self):
        session = session_of(COUNTER)
        session.begin([5])
        session.cut((0, 5, 5))
        for _ in range(3):
            # The trace begins with the stores of the recovery; none of it is durable.
            run = session.begin([9])
            self.assertEqual(run.start, (6,))
            self.assertEqual(session.cut((0, 0, 0)), 0)
            self.assertEqual(session.now(), (6,))
        session.begin([9])
        self.assertEqual(session.cut((1, 0, 0)), 0)
        self.assertEqual(session.now(), (6,))
        self.assertEqual(session.history(), [((5,), 2)] + [((9,), 0)] * 4)

    def test_a_run_that_stops(self):
        session = session_of(PAIR, slots=3)
        run = session.begin([7, 0])
        self.assertEqual((run.stop.word, run.stop.line), ("divide", 8))
        self.assertEqual(session.finish(), 2)
        self.assertEqual(session.now(), (7, 0, 1, 7))

    def test_lists_that_are_changed_afterwards(self):
        session = session_of(COUNTER)
        arguments = [5]
        session.begin(arguments)
        arguments[0] = 77
        arguments.append(1)
        image = [0, 5, 0]
        self.assertEqual(session.cut(image), 1)
        self.assertEqual(image, [0, 5, 0])
        image[1] = 0
        history = session.history()
        self.assertEqual(history, [((5,), 1)])
        self.assertIs(type(history[0]), tuple)
        self.assertIs(type(history[0][0]), tuple)
        history.append(None)
        self.assertEqual(session.history(), [((5,), 1)])
        self.assertEqual(session.now(), (5,))

    def test_back(self):
        session = session_of(COUNTER)
        told = [state_of(session)]
        for step in (("begin", [5]), ("finish",), ("begin", [9]), ("cut", (0, 0, 0)), ("begin", [9])):
            getattr(session, step[0])(*step[1:])
            told.append(state_of(session))
        self.assertEqual([state[2] for state in told], [0, 1, 2, 3, 4, 5])
        for _ in range(5):
            self.assertEqual(state_of(session), told.pop())
            self.assertIsNone(session.back())
        self.assertEqual(state_of(session), told.pop())
        self.assert_refused(NoBack(), session, "back")

    def test_back_and_on(self):
        session = session_of(COUNTER)
        session.begin([5])
        session.back()
        session.begin([7])
        session.finish()
        session.back()
        # The run is under way again, and can be cut elsewhere.
        self.assertEqual(session.run().events[0].changes, ((0, 0, 7),))
        self.assertEqual(session.cut((0, 5, 0)), 1)
        self.assertEqual((session.now(), session.history(), session.many()), ((7,), [((7,), 1)], 2))

    def test_two_sessions_of_one_program(self):
        program = read_program(COUNTER)
        layout = packed(program, 4)
        one, two = Session(program, layout, 2), Session(program, layout, 2)
        one.begin([5])
        self.assertEqual(state_of(two), ((0,), [], 0, None))
        two.begin([8])
        two.finish()
        self.assertEqual((one.now(), two.now()), ((0,), (9,)))
        one.finish()
        self.assertEqual((one.now(), two.now()), ((6,), (9,)))
        two.back()
        two.back()
        self.assertEqual((one.history(), two.history()), ([((5,), 2)], []))

    def test_finishing_makes_all_stores_durable(self):
        session = session_of(COUNTER, slots=1)
        session.begin([5])
        session.finish()
        # The log is whole, so that a recovery stores its last word once more.
        trace = translate(plain_run(read_program(COUNTER), (6,), [1]), Layout(4, [[0]]), [[6, 0, 0, 0], [0] * 4], 1)
        self.assertEqual(session.begin([1]), plain_run(read_program(COUNTER), (6,), [1]))
        self.assertGreater(len(session.trace().commands), len(trace.commands))
        self.assertEqual(session.trace().first, 2)

    def test_nothing_to_keep(self):
        for text, arguments in ((IDLE, []), (TALKER, [4])):
            session = session_of(text)
            self.assertEqual(session.now(), ())
            session.begin(arguments)
            self.assertEqual(session.trace().commands, ())
            self.assertEqual(session.cut((0, 0)), 0)
            session.begin(arguments)
            self.assertEqual(session.finish(), 0)
            self.assertEqual(session.history(), [(tuple(arguments), 0)] * 2)
            self.assertEqual(session.now(), ())

    def test_keywords(self):
        program = read_program(COUNTER)
        session = Session(slots=2, layout=packed(program, 4), program=program)
        session.begin(arguments=[5])
        self.assertEqual(session.cut(image=(0, 5, 0)), 1)


class SecondReadingTest(SessionCase):
    def step(self, chance, session, second, inputs):
        """Do one step in both, and compare what it returns."""
        current = second.states[-1][2]
        draw = chance.random()
        if draw < 0.2 and len(second.states) > 1:
            self.assertIsNone(session.back())
            second.states.pop()
        elif current is None:
            arguments = chance.choice(inputs)
            run = session.begin(list(arguments) if draw < 0.6 else arguments)
            second.begin(arguments)
            self.assertEqual(run, second.states[-1][2][1])
        elif draw < 0.5:
            _, run, _ = current
            self.assertEqual(session.finish(), len(blocks_of(run)))
            second.end(second.whole(), len(blocks_of(run)))
        else:
            _, run, trace = current
            image = some_image(chance, trace)
            heap, left = heap_left(trace, image)
            self.assertEqual(session.cut(image if draw < 0.7 else list(image)), left)
            self.assertEqual(heap, heaps(run)[left])
            second.end(image, left)

    def test_programs(self):
        for seed in range(60):
            chance = random.Random(seed)
            text, inputs = chance.choice(PROGRAMS)
            program = read_program(text)
            layout = chance.choice([packed, spread])(program, chance.choice([4, 6, 12]))
            slots = chance.choice([4, 5, 9])
            session = Session(program, layout, slots)
            second = SecondSession(program, layout, slots)
            for _ in range(25):
                self.assert_same(session, second)
                self.step(chance, session, second, inputs)
            while session.many():
                session.back()
                second.states.pop()
                self.assert_same(session, second)
            self.assert_refused(NoBack(), session, "back")

    def test_random_programs(self):
        runs = 0
        for seed in range(80):
            maker = Maker(seed)
            program = read_program(maker.program())
            many = len(maker.procedures[-1]["parameters"])
            layout = spread(program, 12)
            session = Session(program, layout, 9)
            second = SecondSession(program, layout, 9)
            inputs = [tuple(maker.chance.choice([0, 1, 2, -1, 5]) for _ in range(many)) for _ in range(3)]
            if len(plain_run(program, empty_heap(program), inputs[0]).events) > 60:
                continue
            try:
                for _ in range(8):
                    self.step(maker.chance, session, second, inputs)
                    self.assert_same(session, second)
                    runs += 1
            except Wide:
                self.assert_same(session, second)
        self.assertGreater(runs, 200)

    def test_each_image_of_a_small_run(self):
        for text, first, after in ((COUNTER, [5], [-1]), (PAIR, [1, 2], [3, 0]), (STACK, [4], [-1])):
            session = session_of(text, slots=4)
            session.begin(first)
            for place in range(0, count_images(session.trace()), 7):
                trace = session.trace()
                image = image_at(trace, place)
                heap, left = heap_left(trace, image)
                self.assertEqual(session.cut(image), left)
                self.assertEqual((session.now(), session.history()), (heap, [(tuple(first), left)]))
                self.assertEqual(session.begin(after).start, heap)
                session.finish()
                for _ in range(3):
                    session.back()


class ErrorsTest(SessionCase):
    def test_idle(self):
        session = session_of(COUNTER)
        for ended in (False, True):
            self.assert_refused(Idle(), session, "trace")
            self.assert_refused(Idle(), session, "run")
            self.assert_refused(Idle(), session, "finish")
            # Also for what is no image.
            for image in ((0, 0, 0), (0, 5, 0), (), None, 7, (9, 9, 9)):
                self.assert_refused(Idle(), session, "cut", image)
            if not ended:
                session.begin([1])
                session.cut((0, 0, 0))

    def test_arguments(self):
        for before in (False, True):
            session = session_of(PAIR, slots=3)
            if before:
                session.begin([1, 1])
                session.cut(image_with(session.trace(), 1))
            for wrong in ([], [1], [1, 2, 3], (None,), (True,) * 5):
                self.assert_refused(BadCount("arguments", len(wrong)), session, "begin", wrong)
            for wrong, index in (
                ((None, 1), 0), ((1, True), 1), ((False, "1"), 0), ((1, "2"), 1), ((2 ** 60 + 1, None), 0),
                ((2 ** 60, -(2 ** 60) - 1), 1), ((1, (2,)), 1),
            ):
                self.assert_refused(BadCount("argument", index), session, "begin", wrong)
                self.assert_refused(BadCount("argument", index), session, "begin", list(wrong))
            session.begin([2 ** 60, -(2 ** 60)])

    def test_busy(self):
        session = session_of(COUNTER)
        session.begin([5])
        for arguments in ([5], [], [None], [1, 2, 3]):
            self.assert_refused(Busy(), session, "begin", arguments)
        session.finish()
        session.begin([5])

    def test_images(self):
        session = session_of(COUNTER)
        session.begin([5])
        trace = session.trace()
        for image in (
            (), (0,), (0, 0), (0, 0, 0, 0), (-1, 0, 0), (0, 6, 0), (0, 5, 6), (1, 99, 0), None, 5, "000", (None, 0, 0),
            (0, True, 0), (0, "5", 0), (0, 5, (1,)), ((0, 5, 0),), {0: 0, 1: 5, 2: 0}, (0, 5, 0.0), True,
        ):
            self.assert_refused(NoImage(), session, "cut", image)
        impossible = [
            image for image in [(a, b, c) for a in range(3) for b in range(6) for c in range(6)]
            if a_fits(trace, image) and not possible(trace, image)
        ]
        self.assertGreater(len(impossible), 10)
        for image in impossible:
            self.assert_refused(NoImage(), session, "cut", image)
            self.assert_refused(NoImage(), session, "cut", list(image))
        self.assertEqual(session.cut([0, 5, 2]), 1)

    def test_wide(self):
        session = session_of(PAIR, slots=2)
        for _ in range(2):
            self.assert_refused(Wide(3), session, "begin", [1, 2])
            # The arguments are looked at before.
            self.assert_refused(BadCount("argument", 1), session, "begin", [1, None])
        session = session_of("var a[3]: word; main(n: word) { a[0] = n; atomic { a[0] = 0; a[1] = n; a[2] = n; } }")
        session.begin([0])
        self.assertEqual(session.finish(), 0)
        self.assert_refused(Wide(3), session, "begin", [4])
        session.begin([0])
        self.assert_refused(Busy(), session, "begin", [4])

    def test_no_back(self):
        session = session_of(COUNTER)
        self.assert_refused(NoBack(), session, "back")
        session.begin([5])
        session.back()
        self.assert_refused(NoBack(), session, "back")

    def test_errors_when_it_is_created(self):
        faulty = read_program("var x: word; main() { y = 1; }")
        fine = read_program(COUNTER)
        layout = Layout(4, [[0]])
        wrong = Layout(4, [[0, 1]])
        for one, lines, slots, expected in (
            (faulty, wrong, 0, Faulty(judge(faulty))), (faulty, layout, 2, Faulty(judge(faulty))),
            (fine, wrong, 0, Misfit(1)), (fine, Layout(4, []), 0, Misfit(0)), (fine, Layout(4, [[1, 0], [2]]), 1, Misfit(1)),
        ):
            with self.assertRaises(type(expected)) as caught:
                Session(one, lines, slots)
            self.assertEqual(vars(caught.exception), vars(expected))
        for slots in (0, 10, -1, True, False, None, "2", 2.0, (2,), 10 ** 20):
            with self.assertRaises(BadCount) as caught:
                Session(fine, layout, slots)
            self.assertEqual((caught.exception.what, caught.exception.count), ("slots", slots))
            self.assertIs(caught.exception.count, slots)
        for slots in range(1, 10):
            self.assertEqual(Session(fine, layout, slots).now(), (0,))
        self.assertEqual(blank(layout, 1), ((0,) * 4,) * 2)


def a_fits(trace, image):
    """Whether an image has no more stores than there are."""
    done = [sum(getattr(command, "number", None) is not None and command.line == line for command in trace.commands)
            for line in range(3)]
    return all(number <= most for number, most in zip(image, done))


if __name__ == "__main__":
    unittest.main()
