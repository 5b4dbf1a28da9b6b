"""[9]: places, empty heaps, and heaps that are given."""

import unittest

from lastheap.errors import BadCount, Faulty, Misfit
from lastheap.heaps import empty_heap, places
from lastheap.lines import packed, spread
from lastheap.reader import read_program
from lastheap.running import plain_run

MOST = 2 ** 60
ALL_KINDS = (
    "proc p() { } table node 2 { next: node, value: word } var a[2]: node; var x: word;"
    " table leaf 3 { up: node } var l: leaf; var b[1]: word; main() { }"
)


def misfit(text, heap, arguments=()):
    """The place of the error, or None."""
    try:
        plain_run(read_program(text), heap, arguments)
    except Misfit as error:
        return error.place
    return None


class PlacesTest(unittest.TestCase):
    def test_order(self):
        self.assertEqual(
            places(read_program(ALL_KINDS)),
            [
                ("a", 0), ("a", 1), ("x",), ("l",), ("b", 0),
                ("node", 0, "next"), ("node", 0, "value"), ("node", 1, "next"), ("node", 1, "value"),
                ("leaf", 0, "up"), ("leaf", 1, "up"), ("leaf", 2, "up"),
            ],
        )

    def test_tables_behind_variables(self):
        text = "table t 1 { f: u } var v: u; table u 1 { g: t, h: word } var w: t; main() { }"
        self.assertEqual(
            places(read_program(text)), [("v",), ("w",), ("t", 0, "f"), ("u", 0, "g"), ("u", 0, "h")]
        )

    def test_by_keyword(self):
        program = read_program("var x: word; main() { }")
        self.assertEqual(places(program=program), [("x",)])
        self.assertEqual(empty_heap(program=program), (0,))

    def test_no_places(self):
        program = read_program("proc p() { } main() { p(); }")
        self.assertEqual(places(program), [])
        self.assertEqual(empty_heap(program), ())
        self.assertEqual(plain_run(program, [], []).start, ())

    def test_a_new_list_each_time(self):
        program = read_program("var x: word; main() { }")
        places(program).append("more")
        self.assertEqual(places(program), [("x",)])

    def test_kinds_of_what_is_returned(self):
        program = read_program(ALL_KINDS)
        self.assertIs(type(places(program)), list)
        self.assertEqual({type(name) for name in places(program)}, {tuple})
        self.assertIs(type(empty_heap(program)), tuple)

    def test_the_largest(self):
        text = "var a[16]: word; table t 16 { f: word, g: t, h: word, i: t, j: word, k: t } var b[8]: t; main() { }"
        names = places(read_program(text))
        self.assertEqual(len(names), 120)
        self.assertEqual(names[15:17] + names[23:25], [("a", 15), ("b", 0), ("b", 7), ("t", 0, "f")])
        self.assertEqual(names[119], ("t", 15, "k"))
        self.assertEqual(empty_heap(read_program(text)), (0,) * 120)

    def test_faulty(self):
        program = read_program("var x: word;\n main() { x = none; }")
        for call in (
            lambda: places(program),
            lambda: empty_heap(program),
            lambda: plain_run(program, (None,), (None,)),
            lambda: packed(program, 3),
            lambda: spread(program, 3),
        ):
            with self.assertRaises(Faulty) as caught:
                call()
            fault = caught.exception.fault
            self.assertEqual((fault.word, fault.line, fault.column), ("kind", 2, 15))


class GivenHeapsTest(unittest.TestCase):
    def test_empty_heap(self):
        program = read_program(ALL_KINDS)
        self.assertEqual(empty_heap(program), (0,) * 12)

    def test_lists_and_tuples(self):
        given = [1, 2, MOST, 3, -MOST, 2, -7, 0, 7, 1, 0, 2]
        program = read_program(ALL_KINDS)
        self.assertEqual(plain_run(program, given, []), plain_run(program, tuple(given), ()))
        self.assertEqual(plain_run(program, given, []).start, tuple(given))

    def test_words(self):
        for word in (0, 1, -1, MOST, -MOST):
            self.assertIsNone(misfit("var x: word; main() { }", (word,)))
        for word in (MOST + 1, -MOST - 1, 10 ** 40, True, False, None, "1", 1.0, (1,)):
            self.assertEqual(misfit("var x: word; main() { }", (word,)), 0, word)

    def test_references(self):
        text = "var x: word; var r: t; table t 3 { f: word } main() { }"
        for word in (0, 1, 2, 3):
            self.assertIsNone(misfit(text, (9, word, 0, 0, 0)))
        for word in (-1, 4, MOST, True, None, "0"):
            self.assertEqual(misfit(text, (9, word, 0, 0, 0)), 1, word)

    def test_references_in_arrays_and_fields(self):
        right = [2, 2, 0, 3, 0, 2, 0, 2, 0, 2, 2, 2]
        self.assertIsNone(misfit(ALL_KINDS, right))
        for place in range(12):
            wrong = list(right)
            wrong[place] = 4
            if place in (2, 4, 6, 8):
                self.assertIsNone(misfit(ALL_KINDS, wrong))
            else:
                self.assertEqual(misfit(ALL_KINDS, wrong), place)

    def test_number_of_words(self):
        text = "var x: word; var y: word; main() { }"
        for heap in ((), (1,), (1, 2, 3), [0] * 50):
            self.assertEqual(misfit(text, heap), len(heap))
        self.assertEqual(misfit("main() { }", (0,)), 1)

    def test_the_number_comes_first(self):
        text = "var x: word; var y: word; main() { }"
        self.assertEqual(misfit(text, (None, None, None)), 3)
        self.assertEqual(misfit(text, (MOST + 1,)), 1)

    def test_the_first_word_that_is_none(self):
        text = "var x: word; var r: t; table t 3 { f: word } main() { }"
        self.assertEqual(misfit(text, (0, 4, None, 0, True)), 1)
        self.assertEqual(misfit(text, (0, 3, None, 0, True)), 2)
        self.assertEqual(misfit(text, (0, 3, 0, 0, True)), 4)

    def test_ahead_of_arguments(self):
        self.assertEqual(misfit("var x: word; main() { }", (True,), (1, 2)), 0)
        self.assertEqual(misfit("var x: word; main(a: word) { }", (), (None,)), 0)
        with self.assertRaises(BadCount):
            misfit("var x: word; main() { }", (1,), (1, 2))

    def test_the_heap_stays(self):
        heap = [1, 2]
        program = read_program("var x: word; var y: word; main() { x = 5; y = 6; }")
        run = plain_run(program, heap, [])
        self.assertEqual(heap, [1, 2])
        heap[0] = 9
        self.assertEqual(run.start, (1, 2))


if __name__ == "__main__":
    unittest.main()
