"""[33] and [34]: desks."""

import random
import unittest

from lastheap.desk import Desk
from lastheap.errors import BadCount, Faulty, HeapError, Misfit
from lastheap.images import count_images, image_at
from lastheap.judging import judge
from lastheap.lasttexts import commands_text, heap_text
from lastheap.lines import Layout, packed, spread
from lastheap.prefixes import count_by_prefix
from lastheap.reader import read_program
from lastheap.running import Out
from lastheap.session import Session
from tests.session_helpers import COUNTER, IDLE, PAIR, PROGRAMS, STACK, TALKER, blocks_of

QUESTIONS = ("heap", "history", "commands", "images", "prefixes")


def desk_of(text, width=4, slots=4):
    program = read_program(text)
    return Desk(program, packed(program, width), slots)


def state_of(desk):
    return [desk.tell(question) for question in QUESTIONS]


class DeskCase(unittest.TestCase):
    def assert_told(self, desk, *pairs):
        for row, answers in zip(pairs[::2], pairs[1::2]):
            found = desk.tell(row)
            self.assertEqual(found, answers, row)
            self.assertIs(type(found), list)

    def assert_refused(self, desk, row, word):
        before = state_of(desk)
        self.assertEqual(desk.tell(row), ["refused " + word], row[:80])
        self.assertEqual(state_of(desk), before)


class CommandsTest(DeskCase):
    def test_a_day(self):
        self.assert_told(
            desk_of(COUNTER, slots=2),
            "heap", ["empty"], "history", [], "start 5", ["run 2", "out 6"], "heap", ["empty"],
            "finish", ["left 2"], "heap", ["x=6"], "history", ["5 2"], "back", ["done"], "history", [],
            "heap", ["empty"], "images", ["37"], "prefixes", ["30 5 2"], "cut 11", ["left 1"], "heap", ["x=5"],
            "history", ["5 1"], "start -1", ["run 2", "out 0"], "cut 0", ["left 0"], "heap", ["x=5"],
            "history", ["5 1", "-1 0"], "start 0", ["run 2", "out 1"], "finish", ["left 2"],
            "history", ["5 1", "-1 0", "0 2"], "heap", ["x=1"],
        )

    def test_commands(self):
        desk = desk_of("var x: word; main(n: word) { x = n; sync; }", slots=2)
        self.assert_told(
            desk, "start 5", ["run 1"],
            "commands", ["store 1 0 -1, store 1 1 1, store 1 2 0, store 1 3 5, store 1 0 1, flush 1, fence, store 0 0 5"],
            "finish", ["left 1"], "commands", ["refused idle"], "start 5", ["run 0"],
            "commands", ["store 0 0 5"], "cut 0", ["left 0"],
        )
        self.assert_told(
            desk_of(COUNTER, slots=2), "start 0", ["run 1", "out 1"],
            "commands", ["store 1 0 -1, store 1 1 1, store 1 2 0, store 1 3 1, store 1 0 1, flush 1, fence, store 0 0 1"],
        )

    def test_stops(self):
        self.assert_told(
            desk_of(STACK), "start -1", ["run 0", "stop none 11 18"], "finish", ["left 0"], "history", ["-1 0"],
            "start 4", ["run 1", "out 1"], "finish", ["left 1"], "start 5", ["run 1", "out 2"], "finish", ["left 1"],
            "start 6", ["run 1", "out 3"], "finish", ["left 1"], "start 7", ["run 0", "stop full 6 17"],
            "cut 0", ["left 0"], "start -7", ["run 1", "out 6", "out 2"], "finish", ["left 1"],
            # The record that was given back is emptied first.
            "start 8", ["run 2", "out 3"], "finish", ["left 2"],
        )
        self.assert_told(
            desk_of(PAIR), "start 7 0", ["run 2", "out 7", "stop divide 8 17"], "finish", ["left 2"],
            "heap", ["a[0]=7 a[2]=1 b=7"],
        )
        self.assert_told(
            desk_of("main(n: word) { while 1 max 3 { out n; } }"),
            "start 8", ["run 0", "out 8", "out 8", "out 8", "stop rounds 1 17"],
        )

    def test_several_outputs(self):
        self.assert_told(
            desk_of(TALKER), "start -1", ["run 0", "out -1", "out 0"], "finish", ["left 0"],
            "start 999999999999999999", ["run 0", "out 999999999999999999", "out 1000000000000000000"],
        )

    def test_nothing(self):
        desk = desk_of(IDLE)
        self.assert_told(
            desk, "heap", ["empty"], "history", [], "start", ["run 0"], "commands", ["nothing"], "images", ["1"],
            "prefixes", ["1"], "cut 0", ["left 0"], "history", ["0"], "start", ["run 0"], "finish", ["left 0"],
            "history", ["0", "0"], "heap", ["empty"], "back", ["done"], "back", ["done"], "history", ["0"],
        )

    def test_several_arguments(self):
        desk = desk_of(PAIR)
        self.assert_told(
            desk, "start 12 -3", ["run 3", "out 9"], "finish", ["left 3"], "history", ["12 -3 3"],
            "heap", ["a[0]=-4 a[1]=-3 a[2]=1 b=9"],
        )

    def test_every_place_of_a_small_trace(self):
        desk = desk_of(COUNTER, slots=2)
        program = read_program(COUNTER)
        session = Session(program, packed(program, 4), 2)
        desk.tell("start 5")
        session.begin([5])
        many = count_images(session.trace())
        for place in range(many):
            left = session.cut(image_at(session.trace(), place))
            self.assert_told(
                desk, f"cut {place}", [f"left {left}"], "heap", [heap_text(program, session.now())],
                "history", [f"5 {left}"], "back", ["done"],
            )
            session.back()
        self.assert_refused(desk, f"cut {many}", "noplace")
        self.assertEqual(desk.tell(f"cut {many - 1}"), ["left 2"])

    def test_answers_are_new_lists(self):
        desk = desk_of(COUNTER)
        desk.tell("start 5")
        desk.tell("finish")
        desk.tell("history").append("x")
        desk.tell("heap").clear()
        self.assert_told(desk, "history", ["5 2"], "heap", ["x=6"])

    def test_two_desks(self):
        program = read_program(COUNTER)
        layout = packed(program, 4)
        one, two = Desk(program, layout, 2), Desk(slots=2, layout=layout, program=program)
        self.assertEqual(one.tell(row="start 5"), ["run 2", "out 6"])
        self.assert_told(two, "images", ["refused idle"], "history", [], "start 1", ["run 2", "out 2"])
        self.assert_told(one, "finish", ["left 2"], "heap", ["x=6"])
        self.assert_told(two, "heap", ["empty"])


class RefusedTest(DeskCase):
    def test_each_error(self):
        desk = desk_of(PAIR, slots=2)
        for row, word in (
            ("cut 0", "idle"), ("cut " + "9" * 60, "idle"), ("finish", "idle"), ("images", "idle"), ("prefixes", "idle"),
            ("commands", "idle"), ("back", "noback"), ("start", "badcount"), ("start 1", "badcount"),
            ("start 1 2 3", "badcount"), ("start 1 2", "wide"),
        ):
            self.assert_refused(desk, row, word)
        desk = desk_of(PAIR)
        desk.tell("start 1 2")
        for row, word in (
            ("start 1 2", "busy"), ("start", "busy"), ("start 1 2 3", "busy"), ("cut 1000000", "noplace"),
            ("cut 1" + "0" * 59, "noplace"), ("cut " + "9" * 60, "noplace"),
        ):
            self.assert_refused(desk, row, word)
        self.assertEqual(desk.tell("cut 0"), ["left 0"])

    def test_bad_texts(self):
        rows = [
            "", " ", "  ", "x", "Start 5", "START 5", "starts 5", "star 5", "start  5", " start 5", "start 5 ", "start ",
            "start 5  ", "start +5", "start 05", "start 00", "start -0", "start --5", "start -", "start 5-", "start - 5",
            "start -05", "start 5.", "start 5,", "start x", "start 1_0", "start 0x1", "start\n5", "start 5\n", "start1",
            "start 1000000000000000000", "start -1000000000000000000", "start 0000000000000000001",
            "cut", "cut ", "cut -1", "cut +1", "cut 01", "cut 00", "cut -0", "cut 1 2", "cut  1", "cut 1 ", " cut 1", "cut x",
            "Cut 1", "cut1", "cut 1" + "0" * 60, "cut 0 ", "cut (0, 0, 0)",
            "finish ", " finish", "finish 0", "Finish", "finished", "back ", "back 1", "BACK", "heap ", "heap x", "Heap",
            "images 0", "images ", "prefixes 0", "prefix", "commands ", "commands nothing", "command", "history 1",
            "historY", "history ", "now", "run", "trace", "many", "begin 5", "nothing", "refused", "heap heap", "heap, heap",
            "5", "-1", "told", "init",
        ]
        for many in (19, 20, 61, 4299, 4300, 4301, 5000, 30000):
            rows += ["start " + "1" * many, "start -" + "9" * many, "start 1 " + "0" * many, "start " + "5 " * 3 + "1" * many]
            if many > 60:
                rows += ["cut " + "1" * many, "cut " + "0" * many]
        desk = desk_of(COUNTER)
        steps = ["start 5", "finish", "start 1", "cut 3", "back"]
        while True:
            for row in rows:
                self.assert_refused(desk, row, "badtext")
            if not steps:
                break
            desk.tell(steps.pop(0))

    def test_the_text_is_looked_at_first(self):
        desk = desk_of(COUNTER)
        for _ in range(2):
            self.assert_refused(desk, "start 1 05", "badtext")
            self.assert_refused(desk, "cut 99999 9", "badtext")
            self.assert_refused(desk, "back 5", "badtext")
            desk.tell("start 5")
        self.assert_refused(desk, "start 5 5", "busy")

    def test_as_many_digits_as_there_may_be(self):
        desk = desk_of(COUNTER)
        self.assertEqual(desk.tell("start " + "9" * 18), ["run 2", "out 1" + "0" * 18])
        desk.tell("back")
        self.assertEqual(desk.tell("start -" + "9" * 18), ["run 2", "out -" + "9" * 17 + "8"])
        self.assert_refused(desk, "cut " + "9" * 60, "noplace")
        self.assert_refused(desk, "cut " + "9" * 61, "badtext")

    def test_an_answer_for_each_error(self):
        # The rows of [33] can bring about these, and no others.
        answers = set()
        for text in (PAIR, COUNTER):
            for slots in (1, 3):
                desk = desk_of(text, slots=slots)
                for row in ("cut 0", "back", "start", "start 1 2", "start 1 2", "start 1", "start 1", "cut 99999", "?"):
                    found = desk.tell(row)
                    if found[0].startswith("refused"):
                        self.assertEqual(len(found), 1)
                        answers.add(found[0])
        words = ("idle", "noback", "badcount", "wide", "busy", "noplace", "badtext")
        self.assertEqual(answers, {"refused " + word for word in words})


class AgainstASessionTest(DeskCase):
    def expected(self, session, program, name, words):
        """What [33] wants, from a session beside the desk."""
        numbers = [int(word) for word in words]
        if name == "start":
            run = session.begin(numbers)
            answers = [f"run {len(blocks_of(run))}"]
            answers += [f"out {event.word}" for event in run.events if isinstance(event, Out)]
            stop = run.stop
            return answers + ([f"stop {stop.word} {stop.line} {stop.column}"] if stop else [])
        if name == "cut":
            return [f"left {session.cut(image_at(session.trace(), *numbers))}"]
        if name == "finish":
            return [f"left {session.finish()}"]
        if name == "back":
            session.back()
            return ["done"]
        if name == "heap":
            return [heap_text(program, session.now())]
        if name == "history":
            return [" ".join(map(str, (*arguments, left))) for arguments, left in session.history()]
        trace = session.trace()
        if name == "images":
            return [str(count_images(trace))]
        if name == "prefixes":
            return [" ".join(map(str, count_by_prefix(trace)))]
        return [commands_text(trace.commands)]

    def test_any_days(self):
        refused = set()
        for seed in range(60):
            chance = random.Random(seed)
            text, inputs = chance.choice(PROGRAMS)
            program = read_program(text)
            layout = chance.choice([packed, spread])(program, chance.choice([4, 6, 12]))
            slots = chance.choice([2, 4, 9])
            desk, session = Desk(program, layout, slots), Session(program, layout, slots)
            for _ in range(40):
                name = chance.choice(["start", "start", "cut", "cut", "finish", "back", *QUESTIONS])
                words = []
                if name == "start":
                    words = [str(number) for number in chance.choice(inputs) if abs(number) < 10 ** 18]
                elif name == "cut":
                    words = [str(chance.choice([0, 1, 3, 7, 20, 50, 999]))]
                try:
                    expected = self.expected(session, program, name, words)
                except HeapError as error:
                    expected = [error.told()]
                    refused.add(expected[0])
                self.assertEqual(desk.tell(" ".join([name, *words])), expected)
        self.assertLessEqual({"refused idle", "refused busy", "refused noback", "refused noplace"}, refused)


class CreatedTest(unittest.TestCase):
    def test_errors(self):
        faulty = read_program("var x: word; main() { y = 1; }")
        fine = read_program(COUNTER)
        wrong = Layout(4, [[0, 1]])
        with self.assertRaises(Faulty) as caught:
            Desk(faulty, wrong, 0)
        self.assertEqual(caught.exception.fault, judge(faulty))
        with self.assertRaises(Misfit) as caught:
            Desk(fine, wrong, 0)
        self.assertEqual(caught.exception.place, 1)
        for slots in (0, 10, -1, True, None, "2"):
            with self.assertRaises(BadCount) as caught:
                Desk(fine, Layout(4, [[0]]), slots)
            self.assertEqual((caught.exception.what, caught.exception.count), ("slots", slots))


if __name__ == "__main__":
    unittest.main()
