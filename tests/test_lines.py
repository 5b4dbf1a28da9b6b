"""[14] and [15]: layouts and commands."""

import unittest

from lastheap.errors import BadCount, Misfit
from lastheap.lines import Fence, Flush, Layout, Store, packed, spread
from lastheap.reader import read_program
from lastheap.running import Out, Sync

WIDTHS = (4, 6, 8, 10, 12)
NO_WIDTHS = (3, 5, 7, 9, 11, 13, 14, 2, 0, -4, 16, 10 ** 20, True, False, None, "4", 4.0, (4,))
PROGRAM = (
    "table node 2 { next: node, a: word, b: word } var x: word; var y[5]: word; var z: node; table leaf 1 {"
    " up: node } var w[1]: word; main() { }"
)


def refused(width, lines):
    """The error as a tuple, or None."""
    try:
        Layout(width, lines)
    except BadCount as error:
        return (error.what, error.count)
    except Misfit as error:
        return ("misfit", error.place)
    return None


class LayoutTest(unittest.TestCase):
    def test_fields(self):
        layout = Layout(4, [[2, 0], (1,)])
        self.assertEqual((layout.width, layout.lines), (4, ((2, 0), (1,))))
        self.assertEqual((type(layout.lines), type(layout.lines[0])), (tuple, tuple))
        self.assertEqual(Layout(lines=((0,),), width=6).lines, ((0,),))
        self.assertEqual(Layout(12, []).lines, ())

    def test_later_changes_have_no_effect(self):
        line = [0, 1]
        lines = [line]
        layout = Layout(4, lines)
        line.append(2)
        lines.append([3])
        self.assertEqual(layout.lines, ((0, 1),))

    def test_equality(self):
        self.assertEqual(Layout(4, [[0, 1]]), Layout(4, ((0, 1),)))
        self.assertFalse(Layout(4, [[0, 1]]) == Layout(6, [[0, 1]]))
        self.assertFalse(Layout(4, [[0, 1]]) == Layout(4, [[1, 0]]))
        self.assertFalse(Layout(4, [[0, 1]]) == Layout(4, [[0], [1]]))
        self.assertFalse(Layout(4, []) == (4, ()))

    def test_widths(self):
        for width in WIDTHS:
            self.assertIsNone(refused(width, [[0]]))
        for width in NO_WIDTHS:
            self.assertEqual(refused(width, [[0]]), ("width", width))
            self.assertEqual(refused(width, [[], [True], [0, 0]]), ("width", width))
        self.assertIs(refused(True, [[0]])[1], True)

    def test_lines(self):
        for width in WIDTHS:
            places = list(range(3 * width))
            lines = [places[:width], places[width:2 * width], places[2 * width:]]
            self.assertIsNone(refused(width, lines))
            self.assertEqual(refused(width, [places[:width + 1]]), ("line", 0))
            self.assertEqual(refused(width, lines + [[]]), ("line", 3))
            self.assertEqual(refused(width, [[0], places, []]), ("line", 1))
            self.assertEqual(refused(width, [[0], (), places]), ("line", 1))
        self.assertEqual(refused(4, [[None, -1, 0, 0], [3], []]), ("line", 2))

    def test_what_is_no_place(self):
        for wrong in (-1, True, False, None, "1", 1.0, -(10 ** 20), (0,)):
            self.assertEqual(refused(4, [[0], [2, wrong]]), ("misfit", wrong))
            self.assertEqual(refused(4, [[wrong, 0], [0]]), ("misfit", wrong))
        self.assertIs(refused(4, [[0, True]])[1], True)

    def test_places_that_come_twice(self):
        self.assertEqual(refused(4, [[0, 1], [1, 0]]), ("misfit", 1))
        self.assertEqual(refused(4, [[0, 0, 7]]), ("misfit", 0))
        self.assertEqual(refused(4, [[5, 1, 5, -1]]), ("misfit", 5))
        self.assertEqual(refused(4, [[5, 1, -1, 5]]), ("misfit", -1))

    def test_gaps(self):
        self.assertEqual(refused(4, [[1]]), ("misfit", 0))
        self.assertEqual(refused(4, [[0, 2]]), ("misfit", 1))
        self.assertEqual(refused(4, [[9, 0], [1, 3]]), ("misfit", 2))
        self.assertEqual(refused(4, [[10 ** 30, 0]]), ("misfit", 1))
        self.assertEqual(refused(4, [[4, 2], [0, 1]]), ("misfit", 3))
        self.assertIsNone(refused(4, [[4, 2], [0, 1, 3]]))

    def test_no_place(self):
        for width in WIDTHS:
            self.assertIsNone(refused(width, []))


class PackedTest(unittest.TestCase):
    def test_each_width(self):
        program = read_program(PROGRAM)
        places = tuple(range(15))
        for width in WIDTHS:
            layout = packed(program, width)
            lines = tuple(places[at:at + width] for at in range(0, 15, width))
            self.assertEqual((layout.width, layout.lines), (width, lines))
            self.assertEqual(layout, Layout(width, lines))

    def test_by_keyword(self):
        program = read_program(PROGRAM)
        self.assertEqual(packed(width=6, program=program), packed(program, 6))
        self.assertEqual(spread(width=6, program=program), spread(program, 6))

    def test_full_lines(self):
        program = read_program("var a[8]: word; main() { }")
        self.assertEqual(packed(program, 4).lines, ((0, 1, 2, 3), (4, 5, 6, 7)))
        self.assertEqual(packed(program, 8).lines, (tuple(range(8)),))
        self.assertEqual(spread(program, 4).lines, ((0, 1, 2, 3), (4, 5, 6, 7)))

    def test_no_places(self):
        program = read_program("main() { }")
        for width in WIDTHS:
            self.assertEqual(packed(program, width), Layout(width, ()))
            self.assertEqual(spread(program, width), Layout(width, ()))

    def test_wrong_widths(self):
        for text in ("main() { }", PROGRAM):
            program = read_program(text)
            for call in (packed, spread):
                for width in NO_WIDTHS:
                    with self.assertRaises(BadCount) as caught:
                        call(program, width)
                    self.assertEqual((caught.exception.what, caught.exception.count), ("width", width))

    def test_all_places(self):
        program = read_program("var a[16]: word; table t 16 { a: word, b: t, c: word, d: t, e: word, f: t } main() { }")
        for width in WIDTHS:
            self.assertEqual(sum(packed(program, width).lines, ()), tuple(range(112)))
            self.assertEqual(sum(spread(program, width).lines, ()), tuple(range(112)))


class SpreadTest(unittest.TestCase):
    def test_width_of_four(self):
        # x; y[0] to y[3], y[4]; z; w[0]; the records of node, and of leaf.
        self.assertEqual(
            spread(read_program(PROGRAM), 4).lines,
            ((0,), (1, 2, 3, 4), (5,), (6,), (7,), (8, 9, 10), (11, 12, 13), (14,)),
        )

    def test_larger_widths(self):
        for width in WIDTHS[1:]:
            self.assertEqual(
                spread(read_program(PROGRAM), width).lines,
                ((0,), (1, 2, 3, 4, 5), (6,), (7,), (8, 9, 10), (11, 12, 13), (14,)),
            )

    def test_long_records(self):
        program = read_program("table t 2 { a: word, b: word, c: word, d: word, e: word, f: word } main() { }")
        self.assertEqual(spread(program, 4).lines, ((0, 1, 2, 3), (4, 5), (6, 7, 8, 9), (10, 11)))
        self.assertEqual(spread(program, 6).lines, ((0, 1, 2, 3, 4, 5), (6, 7, 8, 9, 10, 11)))


class CommandsTest(unittest.TestCase):
    def test_fields(self):
        store = Store(1, 2, -3)
        self.assertEqual((store.line, store.word, store.number), (1, 2, -3))
        self.assertEqual(Store(number=5, word=4, line=3), Store(3, 4, 5))
        self.assertEqual(Flush(4).line, 4)
        self.assertEqual(Flush(line=4), Flush(4))

    def test_equality(self):
        made = (
            lambda: Store(1, 2, 3), lambda: Store(0, 2, 3), lambda: Store(1, 0, 3), lambda: Store(1, 2, 0),
            lambda: Flush(1), lambda: Flush(2), lambda: Fence(),
        )
        for index, left in enumerate(made):
            for other, right in enumerate(made):
                self.assertIs(left() == right(), index == other)
                self.assertIs(left() != right(), index != other)
            for strange in (None, 1, (1, 2, 3), "fence", Sync(), Out(1)):
                self.assertFalse(left() == strange)
                self.assertFalse(strange == left())


if __name__ == "__main__":
    unittest.main()
