"""[29]: heaps that are led over to another program."""

import random
import unittest

from lastheap.editions import led_over
from lastheap.errors import Faulty, Misfit
from lastheap.heaps import empty_heap, places
from lastheap.judging import judge
from lastheap.reader import read_program
from lastheap.running import heaps, plain_run

MOST = 2 ** 60


def program(text):
    return read_program(text + " main() {}")


def led(old, new, heap):
    return led_over(program(old), program(new), heap)


class LedOverTest(unittest.TestCase):
    def test_to_itself(self):
        text = "var x: word; table node 2 { next: node, value: word } var a[2]: node;"
        for heap in ((5, 1, 2, 2, -7, 0, MOST), (0,) * 7, (-MOST, 0, 0, 1, 1, 2, 2)):
            self.assertEqual(led(text, text, heap), heap)
            self.assertEqual(led_over(program(text), program(text), list(heap)), heap)
        self.assertEqual(led("", "", ()), ())

    def test_kinds_of_what_is_returned(self):
        one = program("var x: word;")
        heap = [4]
        found = led_over(heap=heap, new=one, old=one)
        self.assertIs(type(found), tuple)
        self.assertEqual((found, heap), ((4,), [4]))

    def test_another_order(self):
        old = "var x: word; var y: word; var a[2]: word; table node 1 { next: node, value: word }"
        new = "table node 1 { value: word, next: node } var a[2]: word; var y: word; var x: word;"
        self.assertEqual(led(old, new, (1, 2, 3, 4, 1, 6)), (3, 4, 2, 1, 6, 1))

    def test_tables_in_another_order(self):
        old = "table one 2 { value: word } table two 1 { value: word }"
        new = "table two 1 { value: word } table one 2 { value: word }"
        self.assertEqual(led(old, new, (1, 2, 3)), (3, 1, 2))

    def test_places_that_are_new_and_that_are_gone(self):
        self.assertEqual(led("var x: word;", "var y: word;", (5,)), (0,))
        self.assertEqual(led("var x: word;", "", (5,)), ())
        self.assertEqual(led("", "var x: word; var a[3]: word;", ()), (0, 0, 0, 0))
        self.assertEqual(led("var x: word; var y: word;", "var y: word; var z: word;", (5, 6)), (6, 0))

    def test_other_sizes(self):
        self.assertEqual(led("var a[2]: word;", "var a[4]: word;", (5, 6)), (5, 6, 0, 0))
        self.assertEqual(led("var a[4]: word;", "var a[2]: word;", (5, 6, 7, 8)), (5, 6))
        old = "table node 3 { value: word, more: word }"
        new = "table node 2 { more: word, value: word }"
        self.assertEqual(led(old, new, (1, 2, 3, 4, 5, 6)), (2, 1, 4, 3))
        self.assertEqual(led(new, old, (1, 2, 3, 4)), (2, 1, 4, 3, 0, 0))

    def test_other_fields(self):
        old = "table node 2 { value: word, next: node }"
        new = "table node 2 { name: word, next: node, other: node }"
        self.assertEqual(led(old, new, (7, 2, 8, 1)), (0, 2, 0, 0, 1, 0))

    def test_a_variable_and_an_array_of_one(self):
        self.assertEqual(led("var x: word;", "var x[1]: word;", (5,)), (0,))
        self.assertEqual(led("var x[1]: word;", "var x: word;", (5,)), (0,))
        self.assertEqual(led("table x 1 { y: word }", "var x[1]: word;", (5,)), (0,))

    def test_another_kind_under_the_same_name(self):
        one = "table node 2 { value: word } table tree 2 { value: word }"
        self.assertEqual(led(one + "var x: node;", one + "var x: word;", (2, 0, 0, 0, 0)), (0,) * 5)
        self.assertEqual(led(one + "var x: word;", one + "var x: node;", (2, 0, 0, 0, 0)), (0,) * 5)
        self.assertEqual(led(one + "var x: node;", one + "var x: tree;", (2, 0, 0, 0, 0)), (0,) * 5)
        self.assertEqual(led(one + "var x: node;", one + "var x: node;", (2, 0, 0, 0, 0)), (2, 0, 0, 0, 0))
        # Even a word far beyond the records is no reference then.
        self.assertEqual(led(one + "var x: word;", one + "var x: node;", (MOST, 0, 0, 0, 0)), (0,) * 5)

    def test_a_table_that_is_gone(self):
        old = "table node 2 { value: word } var x: node; var y: node;"
        self.assertEqual(led(old, "var x: word; table tree 2 { value: word } var y: tree;", (1, 2, 5, 6)), (0,) * 4)

    def test_tables_of_the_same_name(self):
        # Another table altogether, but one of the same name.
        old = "table node 2 { value: word } var x: node;"
        new = "table node 5 { left: node, right: node } var x: node;"
        self.assertEqual(led(old, new, (2, 7, 8)), (2,) + (0,) * 10)

    def test_records_that_are_not_there(self):
        old = "table node 3 { next: node, value: word } var x: node; var a[2]: node;"
        new = "table node 2 { next: node, value: word } var x: node; var a[2]: node;"
        for heap, place in (
            ((3, 0, 0, 0, 0, 0, 0, 0, 0), 0),
            ((2, 0, 3, 0, 0, 0, 0, 0, 0), 2),
            ((2, 3, 3, 3, 0, 3, 0, 0, 0), 1),
            ((0, 0, 0, 2, 9, 3, 9, 0, 0), 5),
            ((0, 0, 0, 3, 9, 3, 9, 0, 0), 3),
        ):
            with self.assertRaises(Misfit) as caught:
                led(old, new, heap)
            self.assertEqual(caught.exception.place, place)
        # The record that is gone referred to itself.
        self.assertEqual(led(old, new, (2, 1, 0, 2, 9, 1, 8, 3, 7)), (2, 1, 0, 2, 9, 1, 8))

    def test_the_place_is_one_of_the_new_program(self):
        old = "table node 3 { value: word } var x: node; var y: node;"
        new = "table node 1 { value: word } var z: word; var y: node; var x: node;"
        for heap, place in (((3, 2, 0, 0, 0), 1), ((3, 1, 0, 0, 0), 2), ((0, 3, 0, 0, 0), 1)):
            with self.assertRaises(Misfit) as caught:
                led(old, new, heap)
            self.assertEqual(caught.exception.place, place)
        self.assertEqual(led(old, new, (1, 0, 5, 6, 7)), (0, 0, 1, 5))


class ErrorsTest(unittest.TestCase):
    FINE = "var x: word; table node 2 { next: node }"
    FAULT = "var y: nothing;"

    def test_wrong_heaps(self):
        for heap, place in (
            ((), 0), ((0, 0), 2), ((0,) * 4, 4), ((True, 0, 0), 0), ((None, 3, 3), 0), (("5", 0, 0), 0),
            ((0, True, 0), 1), ((0, 0, "1"), 2), ((0, 0, None), 2), ((2 ** 60 + 1, 0, 0), 0), ((-2 ** 60 - 1, 9, 0), 0),
            ((0, 3, 0), 1), ((0, 0, -1), 2), ((0, 2, 3), 2), ("abc", 0),
        ):
            for new in (self.FINE, "", "table node 1 { next: node }"):
                with self.assertRaises(Misfit) as caught:
                    led(self.FINE, new, heap)
                self.assertEqual(caught.exception.place, place, heap)
                if isinstance(heap, tuple):
                    with self.assertRaises(Misfit) as caught:
                        led(self.FINE, new, list(heap))
                    self.assertEqual(caught.exception.place, place, heap)
        self.assertEqual(led(self.FINE, self.FINE, (2 ** 60, 2, 0)), (2 ** 60, 2, 0))

    def test_faults_come_first(self):
        other = "proc p() { q(); }"
        for old, new, heap, text in (
            (self.FAULT, self.FINE, (5, 5, 5), self.FAULT), (self.FINE, other, (), other),
            (self.FAULT, other, (), self.FAULT), (other, self.FAULT, (1,), other),
        ):
            with self.assertRaises(Faulty) as caught:
                led(old, new, heap)
            self.assertEqual(caught.exception.fault, judge(program(text)))


class SecondReadingTest(unittest.TestCase):
    def some_text(self, chance):
        """A program with some of the same names each time."""
        declarations = []
        tables = [name for name in ("node", "tree", "leaf") if chance.random() < 0.7]
        for table in tables:
            fields = chance.sample(["next", "value", "left"], chance.randint(1, 3))
            rows = ", ".join(f"{field}: {chance.choice(tables + ['word'])}" for field in fields)
            declarations.append(f"table {table} {chance.randint(1, 3)} {{ {rows} }}")
        for name in ("x", "y", "a"):
            size = chance.choice(["", "", "[1]", f"[{chance.randint(1, 3)}]"])
            if chance.random() < 0.8:
                declarations.append(f"var {name}{size}: {chance.choice(tables + ['word'])};")
        chance.shuffle(declarations)
        return " ".join(declarations)

    def shape(self, text):
        """For each place its name and kind, and the sizes of the tables."""
        kinds = {}
        sizes = {}
        found = program(text)
        for one in found.declarations:
            if one.act == "table":
                sizes[one.name.text] = int(one.size.text)
                kinds.update({(one.name.text, field.name.text): field.kind.text for field in one.fields})
            else:
                kinds[one.name.text] = one.kind.text
        return [
            (name, kinds[name[0], name[2]] if len(name) == 3 else kinds[name[0]]) for name in places(found)
        ], sizes

    def test_any_programs(self):
        refused = fine = 0
        for seed in range(400):
            chance = random.Random(seed)
            old, new = self.some_text(chance), self.some_text(chance)
            before, sizes = self.shape(old)
            heap = [chance.randint(0, sizes.get(kind, 9)) for _, kind in before]
            words = {pair: word for pair, word in zip(before, heap)}
            after, sizes = self.shape(new)
            expected = [words.get(pair, 0) for pair in after]
            wrong = [at for at, (_, kind) in enumerate(after) if kind != "word" and expected[at] > sizes[kind]]
            if wrong:
                with self.assertRaises(Misfit) as caught:
                    led(old, new, heap)
                self.assertEqual(caught.exception.place, wrong[0])
                refused += 1
            else:
                self.assertEqual(led(old, new, heap), tuple(expected))
                fine += any(expected)
        self.assertGreater(refused, 10)
        self.assertGreater(fine, 100)

    def test_runs_go_on(self):
        old = read_program("var x: word; table node 2 { value: word } var n: node;"
                           " main() { x = 4; n = new node; n.value = 9; }")
        new = read_program("table node 3 { more: word, value: word } var n: node; var x: word;"
                           " main() { out x + n.value; n = new node; }")
        heap = led_over(old, new, heaps(plain_run(old, empty_heap(old), []))[-1])
        run = plain_run(new, heap, [])
        self.assertEqual(run.events[0].word, 13)
        # Record 0 is in use, so the next one is taken.
        self.assertEqual(run.events[-1].changes, ((0, 1, 2),))


if __name__ == "__main__":
    unittest.main()
