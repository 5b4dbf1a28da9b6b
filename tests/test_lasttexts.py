"""[31] and [32]: commands, places, blocks and heaps as texts."""

import random
import re
import unittest

from lastheap.errors import BadText, Faulty, Misfit
from lastheap.heaps import places
from lastheap.judging import judge
from lastheap.lasttexts import block_text, commands_text, heap_text, place_text, read_commands
from lastheap.lines import Fence, Flush, Store
from lastheap.reader import read_program
from lastheap.running import Block

SIXTY = "9" * 60
# A second reading of [31], as one expression.
NUMBER = "(0|[1-9][0-9]{0,59})"
COMMAND = re.compile(f"fence|flush {NUMBER}|store {NUMBER} {NUMBER} ({NUMBER}|-[1-9][0-9]{{0,59}})")


def digits(number):
    """The digits of a number that may be too long for `str`."""
    if number < 0:
        return "-" + digits(-number)
    return str(number) if number < 10 ** 4000 else digits(number // 10 ** 4000) + str(number % 10 ** 4000).zfill(4000)


class CommandsTest(unittest.TestCase):
    def check(self, text, commands):
        self.assertEqual(commands_text(commands), text)
        self.assertEqual(commands_text(tuple(commands)), text)
        found = read_commands(text)
        self.assertEqual(found, commands)
        self.assertIs(type(found), list)

    def test_each_command(self):
        self.check("store 1 2 3", [Store(1, 2, 3)])
        self.check("store 0 0 0", [Store(0, 0, 0)])
        self.check("store 10 11 -12", [Store(10, 11, -12)])
        self.check("flush 0", [Flush(0)])
        self.check("flush 120", [Flush(120)])
        self.check("fence", [Fence()])

    def test_rows_of_commands(self):
        self.check(
            "fence, fence, store 1 0 -1, flush 1, store 3 2 1, fence",
            [Fence(), Fence(), Store(1, 0, -1), Flush(1), Store(3, 2, 1), Fence()],
        )

    def test_none(self):
        self.check("nothing", [])
        self.assertIsNot(read_commands("nothing"), read_commands("nothing"))
        self.assertEqual(commands_text(commands=()), "nothing")
        self.assertEqual(read_commands(text="fence"), [Fence()])

    def test_sixty_digits(self):
        most = int(SIXTY)
        self.check(f"flush {SIXTY}", [Flush(most)])
        self.check(f"store {SIXTY} {SIXTY} {SIXTY}", [Store(most, most, most)])
        self.check(f"store 1 1 -{SIXTY}", [Store(1, 1, -most)])
        self.check("store 1 1 1" + "0" * 59, [Store(1, 1, 10 ** 59)])
        self.check("store 1 1 -1" + "0" * 59, [Store(1, 1, -10 ** 59)])

    def test_there_and_back(self):
        for seed in range(200):
            chance = random.Random(seed)

            def number():
                return chance.choice([chance.randint(0, 12), chance.randrange(10 ** chance.randint(1, 60))])

            commands = [
                chance.choice([Fence(), Flush(number()), Store(number(), number(), chance.choice([-1, 1]) * number())])
                for _ in range(chance.randint(0, 6))
            ]
            text = commands_text(commands)
            self.assertEqual(read_commands(text), commands)
            self.assertEqual(commands_text(read_commands(text)), text)

    def test_numbers_without_a_bound_are_written(self):
        self.assertEqual(commands_text([Store(-1, -2, -10 ** 70), Flush(-3)]), f"store -1 -2 -1{'0' * 70}, flush -3")
        for number in (7 ** 9000, -3 ** 20000, 10 ** 4300, 10 ** 6000 + 5):
            self.assertEqual(commands_text([Store(0, 0, number)]), f"store 0 0 {digits(number)}")

    def test_numbers_around_the_pieces_in_which_they_are_written(self):
        for power in (59, 60, 61, 119, 120, 121, 180):
            for number in (10 ** power - 1, 10 ** power, 10 ** power + 1, 7 * 10 ** power + 30):
                for sign in (-1, 1):
                    self.assertEqual(commands_text([Store(1, 2, sign * number)]), f"store 1 2 {sign * number}")


class BadTextTest(unittest.TestCase):
    def assert_bad(self, text, place):
        with self.assertRaises(BadText) as caught:
            read_commands(text)
        self.assertEqual(caught.exception.place, place, text[:80])

    def test_parts_that_are_no_commands(self):
        for part in (
            "", " ", "  ", ",", "nothing", "none", "fence ", " fence", "Fence", "FENCE", "fences", "fenc", "fence 1",
            "fence,", ",fence", "flush", "flush ", "flush  1", "flush 1 ", " flush 1", "flush 1 2", "Flush 1", "flush -1",
            "flush +1", "flush 01", "flush 00", "flush 1x", "flush x", "flush 1.0", "flush 1_0", "flush -0", "flush1",
            "store", "store 1", "store 1 2", "store 1 2 3 4", "store 1 2  3", "store  1 2 3", "store 1 2 3 ", "store 1 2 ",
            "store -1 2 3", "store 1 -2 3", "store 1 2 +3", "store 1 2 03", "store 01 2 3", "store 1 02 3", "store 1 2 -03",
            "store 1 2 -0", "store 1 2 --3", "store 1 2 -", "store 1 2 3-", "store 1 2 - 3", "STORE 1 2 3", "Store 1 2 3",
            "store 1,2,3", "store\n1 2 3", "stor 1 2 3", "flush 1,fence", "1", "-1", "store fence", "flush nothing",
        ):
            self.assertIsNone(COMMAND.fullmatch(part))
            for before in (0, 1, 3):
                for behind in ([], ["fence"], ["", "flush 1"]):
                    row = ["store 1 2 -3", "flush 5", "fence"][:before] + [part] + behind
                    if row != ["nothing"]:
                        self.assert_bad(", ".join(row), before)

    def test_too_many_digits(self):
        for many in (61, 62, 100, 4300, 4301, 5000, 20000):
            for row in ("1" * many, "9" * many, "0" * many, "1" + "0" * (many - 1)):
                self.assert_bad(f"flush {row}", 0)
                self.assert_bad(f"fence, store {row} 0 0", 1)
                self.assert_bad(f"fence, fence, store 0 {row} 0, flush {row}", 2)
                self.assert_bad(f"store 0 0 {row}", 0)
                self.assert_bad(f"store 0 0 -{row}", 0)

    def test_a_sign_left_out_put_in_or_exchanged(self):
        text = "store 10 2 -30, flush 4, fence, store 0 0 0, flush 15"
        signs = ", -0123456789storeflunchF+"
        refused = 0
        for at in range(len(text)):
            others = [text[:at] + text[at + 1:]]
            others += [text[:at] + sign + text[at:] for sign in signs]
            others += [text[:at] + sign + text[at + 1:] for sign in signs]
            for other in others:
                parts = other.split(", ")
                wrong = [place for place, part in enumerate(parts) if not COMMAND.fullmatch(part)]
                if wrong:
                    self.assert_bad(other, wrong[0])
                    refused += 1
                else:
                    self.assertEqual(commands_text(read_commands(other)), other)
        self.assertGreater(refused, 1000)


class PlacesTest(unittest.TestCase):
    def test_each_form(self):
        self.assertEqual(place_text(("count",)), "count")
        self.assertEqual(place_text(("a", 2)), "a[2]")
        self.assertEqual(place_text(("a", 0)), "a[0]")
        self.assertEqual(place_text(("node", 0, "next")), "node[0].next")
        self.assertEqual(place_text(["node", 15, "x_1"]), "node[15].x_1")
        self.assertEqual(place_text(["count"]), "count")
        self.assertEqual(place_text(name=["a", 10]), "a[10]")

    def test_long_numbers(self):
        for many in (1, 17, 60, 61, 640, 4000):
            row = "7" * many
            self.assertEqual(place_text(("a", int(row))), f"a[{row}]")
            self.assertEqual(place_text(("t", int(row), "f")), f"t[{row}].f")
            row = "1" + "0" * (many - 1)
            self.assertEqual(place_text(("a", int(row))), f"a[{row}]")

    def test_places_of_a_program(self):
        program = read_program("table t 2 { b: word, a: t } var x: word; var y[2]: t; main() {}")
        found = [place_text(name) for name in places(program)]
        self.assertEqual(found, ["x", "y[0]", "y[1]", "t[0].b", "t[0].a", "t[1].b", "t[1].a"])


class BlocksTest(unittest.TestCase):
    PROGRAM = read_program("table t 2 { b: word, a: t } var x: word; var y[2]: t; main() {}")

    def test_changes(self):
        block = Block([(0, 5, -6), (2, 0, 1), (3, -7, 0), (6, 2, 0)])
        self.assertEqual(block_text(self.PROGRAM, block), "x:5>-6 y[1]:0>1 t[0].b:-7>0 t[1].a:2>0")
        self.assertEqual(block_text(block=Block([(1, 1, 2)]), program=self.PROGRAM), "y[0]:1>2")

    def test_any_words(self):
        # Also those that no heap of the program has.
        self.assertEqual(
            block_text(self.PROGRAM, Block([(0, 2 ** 70, -2 ** 90), (1, 99, -5)])), f"x:{2 ** 70}>-{2 ** 90} y[0]:99>-5"
        )
        long = 3 ** 12000
        self.assertEqual(block_text(self.PROGRAM, Block([(6, long, -long)])), f"t[1].a:{digits(long)}>-{digits(long)}")
        self.assertEqual(block_text(self.PROGRAM, Block([(4, 0, 0)])), "t[0].a:0>0")

    def test_no_changes(self):
        self.assertEqual(block_text(self.PROGRAM, Block([])), "")

    def test_a_fault(self):
        program = read_program("var x: word; main() { y = 1; }")
        with self.assertRaises(Faulty) as caught:
            block_text(program, Block([(0, 1, 2)]))
        self.assertEqual(caught.exception.fault, judge(program))


class HeapsTest(unittest.TestCase):
    PROGRAM = BlocksTest.PROGRAM

    def test_words(self):
        self.assertEqual(heap_text(self.PROGRAM, (5, 0, 1, -7, 0, 0, 2)), "x=5 y[1]=1 t[0].b=-7 t[1].a=2")
        self.assertEqual(heap_text(self.PROGRAM, [0, 0, 0, 0, 0, 3, 0]), "t[1].b=3")
        self.assertEqual(heap_text(heap=(1,) * 7, program=self.PROGRAM)[:11], "x=1 y[0]=1 ")
        self.assertEqual(heap_text(self.PROGRAM, (2 ** 60, 0, 0, -2 ** 60, 0, 0, 0)), f"x={2 ** 60} t[0].b=-{2 ** 60}")

    def test_empty(self):
        self.assertEqual(heap_text(self.PROGRAM, (0,) * 7), "empty")
        self.assertEqual(heap_text(read_program("main() {}"), ()), "empty")
        self.assertEqual(heap_text(read_program("main() {}"), []), "empty")

    def test_heaps_that_do_not_fit(self):
        for heap, place in (
            ((), 0), ((0,) * 6, 6), ((0,) * 8, 8), ((True,) + (0,) * 6, 0), ((0, None, 3, 0, 0, 0, 0), 1),
            ((0, 3, 0, 0, 0, 0, 0), 1), ((0, 0, -1, 0, 0, 0, 0), 2), ((2 ** 60 + 1,) + (9,) * 6, 0),
            ((0, 0, 0, 0, 0, "1", 0), 5), ((0, 0, 0, 0, 0, 0, 3), 6),
        ):
            with self.assertRaises(Misfit) as caught:
                heap_text(self.PROGRAM, heap)
            self.assertEqual(caught.exception.place, place)

    def test_a_fault_comes_first(self):
        program = read_program("var x: word; main() { y = 1; }")
        for heap in ((), (None,), (1,)):
            with self.assertRaises(Faulty) as caught:
                heap_text(program, heap)
            self.assertEqual(caught.exception.fault, judge(program))


if __name__ == "__main__":
    unittest.main()
