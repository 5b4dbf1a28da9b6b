"""[2]: runs up to the bounds, and somewhat beyond them, in a few seconds each."""

import time
import unittest

from lastheap.heaps import empty_heap, places
from lastheap.lines import Layout, packed, spread
from lastheap.reader import read_program
from lastheap.ring import blank, log_pairs
from lastheap.running import Block, Run, heaps, plain_run
from tests.run_helpers import RunCase, blocks, ran, stop_of

DEPTHS = (1, 39, 40, 41, 60, 150)
LONGEST = 4000
SECONDS = 20


class QuickCase(RunCase):
    def setUp(self):
        self.begun = time.process_time()

    def tearDown(self):
        self.assertLess(time.process_time() - self.begun, SECONDS)


class DeepRunsTest(QuickCase):
    def test_blocks(self):
        for head in ("if 1", "while k == 1 max 1", "if 0 { } else"):
            for depth in DEPTHS:
                text = "main(k: word) { " + (head + " { ") * depth + "k = k + 1; " + "} " * depth + "out k; }"
                self.assert_outs([2], text, (1,))
                self.assert_stop("divide", text.replace("k + 1", "k @/ 0"), (1,))

    def test_operators(self):
        for depth in DEPTHS:
            self.assert_value(depth + 1, "a" + " + a" * depth, (1,))
            self.assert_value(1 - depth, "a" + " - a" * depth, (1,))
            self.assert_value(depth % 2, "(1 - " * depth + "a" + ")" * depth, (0,))
            self.assert_value(5 * (-1) ** depth, "-" * depth + "5")
            self.assert_value(depth % 2, "not " * depth + "a", (0,))
            self.assert_stop("divide", "main() { out " + "1 + " * depth + "1 @/ 0; }")

    def test_indexes_and_fields(self):
        for depth in DEPTHS:
            index = "a[" * depth + "1" + "]" * depth
            self.assert_outs([1], "var a[2]: word; main() { a[1] = 1; out " + index + "; }")
            fields = "r" + ".f" * depth
            before = "table t 1 { f: t, g: word } var r: t; main() { r = new t; r.f = r; "
            self.assert_outs([4], before + fields + ".g = 4; out " + fields + ".g; }")

    def test_calls(self):
        rows = []
        while len("".join(rows)) < LONGEST - 60:
            rows.append(f"proc p{len(rows)}(n:word){{p{len(rows) + 1}(n+1);x=n;}}")
        many = len(rows)
        text = "var x:word;" + "".join(rows) + f"proc p{many}(n:word){{out n;}}main(){{p0(0);}}"
        self.assert_outs([many], text)
        self.assertEqual(len(blocks(ran(text))), many)
        shorter = []
        while len("".join(shorter)) < LONGEST:
            shorter.append(f"proc q{len(shorter)}(){{q{len(shorter) + 1}();}}")
        self.assert_stop("divide", "".join(shorter) + f"proc q{len(shorter)}(){{out 1@/0;}}main(){{q0();}}")


class LongRunsTest(QuickCase):
    def test_all_steps_with_long_expressions(self):
        line = "+".join(["a"] * 40)
        value = "(" + ")+(".join([line] * 45) + ")"
        text = (
            "main(a: word, b: word) { while b < 3 max 3 { let c = 0; b = b + 1; while c < 999 max 1000 { c = c + 1; if "
            + value + " { } else { } } } }"
        )
        self.assertLessEqual(len(text), LONGEST)
        self.assertEqual(stop_of(ran(text, (0, 0)))[0], "steps")

    def test_many_records(self):
        text = (
            "table t 16 { f: t, g: t, h: t, i: t, j: t, k: t } var r: t; main(n: word) { r = new t; let z = r;"
            " while n < 15 max 100 { z.k = new t; z.j = r; z = z.k; n = n + 1; } while 1 max 1000 { z = r; z.f = z.g;"
            " z.k.k.k = none; z.k.k.k = new t; } }"
        )
        self.assertEqual(stop_of(ran(text, (0,)))[0], "steps")

    def test_many_places(self):
        text = "var a[16]: word; var b[8]: t; table t 16 { f: t, g: word, h: t, i: t, j: word, k: t } main() {"
        text += " let n = 0; while n < 16 max 16 { a[n] = n; n = n + 1; } atomic { n = 0; while n < 16 max 16 {"
        text += " a[n] = a[n] + 1; let r = new t; if n > 0 { r.f = b[0]; } b[0] = r; r.g = n; n = n + 1; } } }"
        program = read_program(text)
        self.assertEqual(len(places(program)), 120)
        run = plain_run(program, empty_heap(program), ())
        self.assertIsNone(run.stop)
        self.assertEqual(len(blocks(run)), 16)
        self.assertEqual(len(blocks(run)[-1]), 16 + 1 + 15 + 15)

    def test_a_hundred_blocks(self):
        text = "var a[16]: word; table t 13 { f: word, g: word, h: word, i: word, j: word, k: word } var r: t;"
        text += " main() { let n = 0; while n < 100 max 100 { n = n + 1; atomic { a[0] = n; a[15] = n; r = none; } } }"
        run = ran(text)
        self.assertEqual(len(heaps(run)), 101)
        self.assertEqual(heaps(run)[-1], (100,) + (0,) * 14 + (100,) + (0,) * 79)


class RunsByHandTest(QuickCase):
    def test_heaps(self):
        events = [Block([(place, time, time + 1) for place in range(120)]) for time in range(100)]
        found = heaps(Run((0,) * 120, events, None))
        self.assertEqual(found, [(time,) * 120 for time in range(101)])

    def test_layouts(self):
        self.assertEqual(len(Layout(4, [[119 - place] for place in range(120)]).lines), 120)
        program = read_program("var a[16]: word; var b[8]: t; table t 16 { f: t, g: t, h: t, i: t, j: t, k: t } main() { }")
        self.assertEqual(len(packed(program, 4).lines), 30)
        self.assertEqual(len(spread(program, 4).lines), 4 + 2 + 32)
        self.assertEqual(len(blank(packed(program, 4), 9)), 39)
        self.assertEqual(len(log_pairs([(place, 0, 1) for place in range(120)], 4)), 120)


if __name__ == "__main__":
    unittest.main()
