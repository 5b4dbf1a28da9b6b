"""[11] and [12]: what expressions give, arguments, and why runs stop."""

import unittest

from lastheap.errors import BadCount
from lastheap.reader import read_program
from lastheap.running import plain_run
from tests.helpers import unmarked
from tests.run_helpers import RunCase, blocks, outs, ran, stop_of, told

MOST = 2 ** 60


class ValuesTest(RunCase):
    def test_sums_and_products(self):
        for left in (-7, -1, 0, 3, 7):
            for right in (-7, -2, 0, 1, 7):
                self.assert_value(left + right, "a + b", (left, right))
                self.assert_value(left - right, "a - b", (left, right))
                self.assert_value(left * right, "a * b", (left, right))
                self.assert_value(-left, "-a", (left, right))

    def test_division_rounds_down(self):
        for left, right, quotient, rest in (
            (7, 2, 3, 1), (-7, 2, -4, 1), (7, -2, -4, -1), (-7, -2, 3, -1),
            (6, 3, 2, 0), (-6, 3, -2, 0), (6, -3, -2, 0), (-6, -3, 2, 0),
            (0, 5, 0, 0), (0, -5, 0, 0), (1, 5, 0, 1), (-1, 5, -1, 4), (1, -5, -1, -4), (-1, -5, 0, -1),
            (MOST, -1, -MOST, 0), (-MOST, -1, MOST, 0), (-MOST, 2, -MOST // 2, 0), (MOST - 1, MOST, 0, MOST - 1),
        ):
            self.assert_value(quotient, "a / b", (left, right))
            self.assert_value(rest, "a mod b", (left, right))

    def test_comparisons(self):
        for left in (-MOST, -1, 0, 1, MOST):
            for right in (-MOST, -1, 0, 1, MOST):
                for sign, holds in (
                    ("==", left == right), ("!=", left != right), ("<", left < right),
                    ("<=", left <= right), (">", left > right), (">=", left >= right),
                ):
                    self.assert_value(int(holds), f"a {sign} b", (left, right))

    def test_logic(self):
        for left in (-5, 0, 1, 2):
            for right in (-5, 0, 1, 2):
                self.assert_value(int(left != 0 and right != 0), "a and b", (left, right))
                self.assert_value(int(left != 0 or right != 0), "a or b", (left, right))
            self.assert_value(int(left == 0), "not a", (left,))
            self.assert_value(int(left != 0), "not not a", (left,))

    def test_levels(self):
        self.assert_value(7, "1 + 2 * 3")
        self.assert_value(9, "(1 + 2) * 3")
        self.assert_value(-4, "1 - 2 - 3")
        self.assert_value(2, "1 - (2 - 3)")
        self.assert_value(2, "100 / 10 / 5")
        self.assert_value(4, "-3 mod 7")
        self.assert_value(-3, "-(3 mod 7)")
        self.assert_value(1, "not a and not b or c", (0, 0, 0))
        self.assert_value(1, "a or b and c", (1, 0, 0))
        self.assert_value(5, "--5")
        self.assert_value(999999999999999999, "999999999999999999")

    def test_references_are_compared(self):
        text = (
            "table t 2 { f: t } main() { let r = new t; let s = new t; out r == r; out r == s; out r != s;"
            " out r == none; out none == none; out none != r; r.f = s; out r.f == s; out s.f == none; }"
        )
        self.assert_outs([1, 0, 1, 0, 1, 1, 1, 1], text)

    def test_both_operands_are_evaluated(self):
        for expression in ("0 and 1 @/ 0", "1 or 1 @/ 0", "0 * (1 @/ 0)", "1 @/ 0 and 0", "not (0 and 1 @/ 0)"):
            self.assert_stop("divide", "main() { out " + expression + "; }")

    def test_the_left_operand_is_first(self):
        before = "var a[2]: word; table t 1 { f: word } var r: t; main() { "
        self.assert_stop("divide", before + "out 1 @/ 0 + a[5]; }")
        self.assert_stop("index", before + "out @a[5] + 1 / 0; }")
        self.assert_stop("none", before + "out r.@f < a[5]; }")
        self.assert_stop("index", before + "out @a[5] < r.f; }")
        self.assert_stop("divide", before + "out (1 @/ 0) / 0; }")
        self.assert_stop("divide", before + "out 1 / (1 @mod 0); }")
        self.assert_stop("divide", before + "out a[1 @/ 0]; }")
        self.assert_stop("index", before + "out a[@a[2]]; }")

    def test_both_operands_with_effects_on_none(self):
        self.assert_stop("none", "table t 1 { f: word } var r: t; main() { out 0 and r.@f; }")


class OrderTest(RunCase):
    def test_a_place_is_found_before_the_value(self):
        before = "var a[2]: word; table t 1 { f: word, g: t } var r: t; var b[1]: t; main() { "
        self.assert_stop("index", before + "@a[2] = 1 / 0; }")
        self.assert_stop("none", before + "r.@f = 1 / 0; }")
        self.assert_stop("none", before + "r.@g = new t; }")
        self.assert_stop("none", before + "r.@g.f = a[9]; }")
        self.assert_stop("index", before + "@b[1] = new t; }")
        self.assert_stop("divide", before + "a[1] = 1 @/ 0; }")
        self.assert_stop("divide", before + "a[1 @/ 0] = a[9]; }")

    def test_nothing_is_made_for_a_place_that_is_not_found(self):
        run = self.assert_stop("index", "table t 1 { f: word } var b[1]: t; main() { @b[1] = new t; }", (), (0, 7))
        self.assertEqual(told(run), [])

    def test_the_index_of_the_place_is_read_first(self):
        self.assert_outs([0, 9], "var a[2]: word; main() { a[1] = 1; a[a[1]] = 9; out a[0]; out a[1]; }")

    def test_arguments_from_left_to_right(self):
        before = "var a[1]: word; proc p(x: word, y: word) { out x; out y; } main() { "
        self.assert_stop("divide", before + "p(1 @/ 0, a[1]); }")
        self.assert_stop("index", before + "p(@a[1], 1 / 0); }")
        self.assert_outs([1, 2], before + "p(1, 2); }")

    def test_arguments_are_words_of_their_own(self):
        text = (
            "var x: word; proc p(n: word) { n = n + 1; x = n; } main(n: word) { p(n); out n; out x; p(x); out x; }"
        )
        self.assert_outs([4, 5, 6], text, (4,))


class ArgumentsTest(unittest.TestCase):
    def bad_count(self, text, arguments):
        with self.assertRaises(BadCount) as caught:
            plain_run(read_program(text), (), arguments)
        return (caught.exception.what, caught.exception.count)

    def test_number_of_arguments(self):
        for many in (0, 1, 3, 10):
            self.assertEqual(self.bad_count("main(a: word, b: word) { }", [1] * many), ("arguments", many))
        self.assertEqual(self.bad_count("main() { }", [None]), ("arguments", 1))

    def test_what_is_no_argument(self):
        for wrong in (True, False, None, "1", MOST + 1, -MOST - 1, [1], 1.5):
            self.assertEqual(self.bad_count("main(a: word) { }", [wrong]), ("argument", 0))
            self.assertEqual(self.bad_count("main(a: word, b: word) { }", (0, wrong)), ("argument", 1))

    def test_the_first_one(self):
        text = "main(a: word, b: word, c: word) { }"
        self.assertEqual(self.bad_count(text, [1, None, True]), ("argument", 1))
        self.assertEqual(self.bad_count(text, [None, None]), ("arguments", 2))

    def test_the_largest(self):
        for word in (MOST, -MOST, 0):
            self.assertEqual(outs(ran("main(a: word) { out a; }", [word])), [word])

    def test_they_stay_as_they_were(self):
        arguments = [1, 2]
        outs(ran("main(a: word, b: word) { a = b; b = 7; out a; }", arguments))
        self.assertEqual(arguments, [1, 2])

    def test_in_their_order(self):
        text = "main(a: word, b: word, c: word, d: word, e: word, f: word) { out a - b; out c - d; out e - f; }"
        self.assertEqual(outs(ran(text, (10, 1, 20, 2, 30, 3))), [9, 18, 27])

    def test_by_keyword(self):
        program = read_program("main(a: word) { out a; }")
        self.assertEqual(plain_run(program=program, heap=(), arguments=[3]), plain_run(program, [], (3,)))


class LargeTest(RunCase):
    def test_sums(self):
        self.assert_value(MOST, "a + b", (MOST - 1, 1))
        self.assert_value(-MOST, "a - b", (1 - MOST, 1))
        for sign, left, right in (("+", MOST, 1), ("+", -MOST, -1), ("-", -MOST, 1), ("-", MOST, -1)):
            self.assert_stop("large", f"main(a: word, b: word) {{ out a @{sign} b; }}", (left, right))

    def test_products(self):
        self.assert_value(MOST, "a * b", (2 ** 30, 2 ** 30))
        self.assert_value(-MOST, "a * b", (2 ** 30, -(2 ** 30)))
        for left, right in ((2 ** 30, 2 ** 30 + 1), (2 ** 30 + 1, -(2 ** 30)), (MOST, MOST), (-MOST, -MOST)):
            self.assert_stop("large", "main(a: word, b: word) { out a @* b; }", (left, right))

    def test_a_minus_is_never_too_large(self):
        self.assert_value(MOST, "-a", (-MOST,))
        self.assert_value(-MOST, "--a", (-MOST,))
        self.assert_value(-MOST, "-a", (MOST,))

    def test_the_operator_that_stops(self):
        self.assert_stop("large", "main(a: word) { out a @+ a + a; }", (MOST,))
        self.assert_stop("large", "main(a: word) { out a - a + a @+ a; }", (MOST,))
        self.assert_stop("large", "main(a: word) { out (a @* a) / 0; }", (MOST,))
        self.assert_stop("divide", "main(a: word) { out a @/ 0 + a * a; }", (MOST,))
        self.assert_stop("large", "main(a: word) { out a @* a + a / 0; }", (MOST,))
        self.assert_stop("large", "main(a: word) { out a - a @* a; }", (MOST,))
        self.assert_stop("large", "main(a: word) { out a @+ a < a + a; }", (MOST,))

    def test_in_between(self):
        self.assert_stop("large", "main(a: word) { out a @+ 1 - 1; }", (MOST,))
        self.assert_value(MOST, "a - 1 + 1", (MOST,))


class StopTest(RunCase):
    def test_divide(self):
        for expression in ("1 @/ 0", "0 @/ 0", "1 @mod 0", "a @/ (1 - 1)", "a @mod a"):
            self.assert_stop("divide", "main(a: word) { out " + expression + "; }", (0,))

    def test_index(self):
        text = "var a[3]: word; main(n: word) { out a[n]; a[n] = 4; }"
        for index in (0, 1, 2):
            self.assert_outs([0], text, (index,))
        for index in (-1, 3, 4, -MOST, MOST):
            self.assert_stop("index", text.replace("out a", "out @a"), (index,))
            self.assert_stop("index", "var a[3]: word; main(n: word) { @a[n] = 4; }", (index,))

    def test_index_of_references(self):
        before = "table t 1 { f: t, g: word } var a[2]: t; main() { a[1] = new t; "
        self.assert_stop("index", before + "out @a[2].g; }")
        self.assert_stop("none", before + "out a[0].@g; }")
        self.assert_outs([0], before + "out a[1].g; }")
        self.assert_stop("none", before + "a[0].@g = 1; }")
        self.assert_stop("none", before + "a[1].f.@g = 1; }")

    def test_chains_of_fields(self):
        before = "table t 3 { f: t, g: word } var r: t; main() { let a = new t; let b = new t; r = a; r.f = b; "
        self.assert_outs([0], before + "out r.f.g; }")
        self.assert_stop("none", before + "out r.f.f.@g; }")
        self.assert_stop("none", before + "out r.f.f.@f.g; }")
        self.assert_stop("none", before + "r.f.f.@f.f = a; }")
        self.assert_outs([1], before + "b.f = a; out r.f.f.f.f == a; }")
        self.assert_stop("none", before + "out (r.f.f.@f) == none; }")

    def test_places_in_the_text(self):
        self.assert_stop("divide", "main() {\n  out 1;\n  out (1\n    @/ 0);\n}")
        self.assert_stop("index", "var a[1]: word;\nproc p(n: word) {\n   @a[n] = 1;\n}\n\nmain() { p(0);\np(1); }")
        self.assert_stop("none", "table t 1 { f: t }\nmain() { let r = new t; p(r); }\nproc p(r: t) { r = r.f.\n@f; }"
                         .replace("\nmain() { let r = new t; p(r); }", "") + "\nmain() { let r = new t; p(r); }")
        self.assert_stop("full", "table t 1 { f: t }\nmain() { let r = new t;\n let s = new\n @t; }")
        self.assert_stop("rounds", "main() {\n\n\t@while 1 max 0 { } }".replace("\t", " "))

    def test_what_was_done_before(self):
        run = self.assert_stop(
            "divide", "var x: word; var y: word; main() { x = 1; out 7; sync; y = 1 @/ 0; x = 2; out 8; }"
        )
        self.assertEqual(told(run), [("block", ((0, 0, 1),)), ("out", 7), ("sync",)])

    def test_inside_of_procedures(self):
        run = self.assert_stop(
            "index",
            "var a[2]: word; proc p(n: word) { a[0] = n; q(n + 1); a[0] = 9; } proc q(n: word) { out n; @a[n] = 3;"
            " out 5; } main() { p(0); p(1); out 6; }",
        )
        self.assertEqual(told(run), [("out", 1), ("block", ((1, 0, 3),)), ("out", 5), ("block", ((0, 0, 9),)),
                                     ("block", ((0, 9, 1),)), ("out", 2)])

    def test_no_stop(self):
        run = ran("main() { }")
        self.assertIsNone(run.stop)
        self.assertEqual(run.events, ())


def padding(many):
    """Statements that take so many steps; a `while` takes two for each round."""
    rows = ""
    while many >= 2:
        rounds = min(many // 2 - 1, 1000)
        name = "n" + str(rows.count("while"))
        rows += f"let {name} = 0; while {name} < {rounds} max 1000 {{ {name} = {name} + 1; }} "
        many -= 2 + 2 * rounds
    return rows + "let k = 0; " * many


class StepsTest(RunCase):
    BEFORE = "var x: word; proc p() { } proc q() { x = 5; } main() { "

    def assert_step(self, number, rows):
        """The step with this number, from 1 on, among those of the rows is at the mark."""
        marked = self.BEFORE + padding(5001 - number) + rows + " }"
        self.assert_stop("steps", marked)
        text, place = unmarked(self.BEFORE + padding(5000 - number) + rows + " }")
        self.assertNotEqual(stop_of(ran(text)), ("steps", *place), rows)

    def test_padding(self):
        for many in (0, 1, 2, 3, 4, 5, 1999, 2001, 2002, 2003, 2004, 2005, 4999):
            rows = padding(many)
            self.assert_outs([7], "main() { " + rows + "out 7; }")

    def test_a_row_of_statements(self):
        # Each `let` is a step, so this needs nothing that the padding rests on.
        text = "main() { " + "p(); " * 50 + "}" + " " * 10
        procedures = "proc p() { " + "q(); " * 9 + "} proc q() { " + "out 1; " * 10 + "} "
        # A call of p takes 1 + 9 * 11 = 100 steps.
        self.assertEqual(len(outs(ran(procedures + text))), 50 * 90)
        self.assertIsNone(ran(procedures + text).stop)
        more = procedures + text.replace("}", "@sync; }")
        run = self.assert_stop("steps", more)
        self.assertEqual(told(run), [("out", 1)] * 4500)

    def test_statements(self):
        for rows in ("@let a = 1;", "@x = 1;", "@p();", "@if 1 { }", "@while 0 max 5 { }", "@atomic { }", "@sync;",
                     "@out 1;", "@if 0 { x = 1; } else { x = 2; }"):
            self.assert_step(1, rows)
            self.assert_step(2, "sync; " + rows)
        self.assert_step(2, "let a = 1; @a = 2;")

    def test_behind_statements(self):
        for rows in ("let a = 1; @sync;", "x = 1; @sync;", "p(); @sync;", "if 1 { } @sync;", "if 0 { } @sync;",
                     "if 1 { @sync; }", "if 0 { } else { @sync; }", "if 1 { } else { } @sync;",
                     "while 0 max 5 { } @sync;", "while 1 max 5 { @sync; }", "atomic { } @sync;", "out 1; @sync;",
                     "atomic { @x = 1; }"):
            self.assert_step(2, rows)
        for rows in ("q(); @sync;", "if 1 { sync; } @sync;", "if 1 { if 1 { @sync; } }", "atomic { x = 1; @x = 2; }",
                     "p(); p(); @sync;", "while 1 max 5 { sync; @sync; }", "@while 1 max 1 { sync; }",
                     "atomic { p(); @p(); }"):
            self.assert_step(3, rows)

    def test_tests_of_a_while(self):
        self.assert_step(2, "@while 1 max 1 { }")
        self.assert_step(3, "@while 1 max 2 { }")
        self.assert_step(5, "@while 1 max 2 { sync; }")
        self.assert_step(6, "while 1 max 3 { if 1 { } @sync; }")
        self.assert_step(6, "if 1 { @while 1 max 2 { sync; } }")
        self.assert_step(3, "x = 0; @while x < 1 max 1 { }")
        self.assert_step(5, "x = 0; while x < 1 max 1 { x = 1; } @sync;")

    def test_the_step_comes_before_the_test(self):
        for rows, word, number in (
            ("while 1 @/ x max 9 { }", "divide", 1),
            ("while 5 @/ (5 - x) max 9 { x = 5; }", "divide", 3),
            ("@while 1 max 0 { }", "rounds", 1),
            ("@while 1 max 1 { }", "rounds", 2),
            ("@while 1 max 2 { }", "rounds", 3),
        ):
            self.assert_stop(word, self.BEFORE + padding(5000 - number) + rows + " }")
            text, _ = unmarked(self.BEFORE + padding(5001 - number) + rows + " }")
            place = text.index(rows.replace("@", "")) + 1
            self.assertEqual(stop_of(ran(text)), ("steps", 1, place))

    def test_what_was_done_before(self):
        # The first test, and then for each round two stores and the test behind them.
        text = "@while 1 max 1000 { x = x + 1; x = x + 1; } }"
        run = self.assert_stop("rounds", "var x: word; main() { " + padding(1999) + text)
        self.assertEqual(len(run.events), 2000)
        run = self.assert_stop("steps", "var x: word; main() { " + padding(2000) + text)
        self.assertEqual(len(run.events), 2000)
        text = "while 1 max 1000 { x = x + 1; @x = x + 1; } }"
        run = self.assert_stop("steps", "var x: word; main() { " + padding(2001) + text)
        self.assertEqual(len(run.events), 1999)


class RoundsTest(RunCase):
    def test_as_often_as_it_may(self):
        for most in (0, 1, 2, 7, 1000):
            text = f"main(n: word) {{ let k = 0; @while k < n max {most} {{ k = k + 1; }} out k; }}"
            self.assert_outs([most], text.replace("@", ""), (most,))
            self.assert_stop("rounds", text, (most + 1,))
            if most:
                self.assert_outs([most - 1], text.replace("@", ""), (most - 1,))

    def test_what_was_done_in_the_rounds(self):
        run = self.assert_stop("rounds", "var x: word; main() { @while 1 max 3 { x = x + 1; } x = 9; }")
        self.assertEqual(blocks(run), [((0, 0, 1),), ((0, 1, 2),), ((0, 2, 3),)])

    def test_the_test_comes_before_rounds(self):
        self.assert_stop("divide", "var x: word; main() { while 1 @/ (2 - x) >= 0 max 2 { x = x + 1; } }")
        self.assert_stop("rounds", "var x: word; main() { @while 1 / (3 - x) >= 0 max 2 { x = x + 1; } }")
        self.assert_stop("divide", "main() { while 1 @/ 0 max 0 { } }")

    def test_rounds_are_counted_anew(self):
        text = (
            "main() { let i = 0; while i < 3 max 3 { let j = 0; while j < 4 max 4 { j = j + 1; } i = i + 1; out j; } }"
        )
        self.assert_outs([4, 4, 4], text)
        text = "proc p() { let j = 0; while j < 2 max 2 { j = j + 1; } out j; } main() { p(); p(); p(); }"
        self.assert_outs([2, 2, 2], text)

    def test_what_holds(self):
        self.assert_outs([0], "var x: word; main() { x = 0 - 3; while x max 3 { x = x + 1; } out x; }")


class ChoiceTest(RunCase):
    def test_if_and_else(self):
        text = "main(n: word) { if n { out 1; } else { out 2; } out 3; }"
        for word, expected in ((0, [2, 3]), (1, [1, 3]), (-1, [1, 3]), (5, [1, 3])):
            self.assert_outs(expected, text, (word,))
        for word, expected in ((0, [3]), (7, [1, 3])):
            self.assert_outs(expected, "main(n: word) { if n { out 1; } out 3; }", (word,))

    def test_inside_each_other(self):
        text = (
            "main(a: word, b: word) { if a { if b { out 1; } else { out 2; } out 5; } else { if b { out 3; }"
            " else { } out 4; } out 6; }"
        )
        self.assert_outs([1, 5, 6], text, (1, 1))
        self.assert_outs([2, 5, 6], text, (1, 0))
        self.assert_outs([3, 4, 6], text, (0, 1))
        self.assert_outs([4, 6], text, (0, 0))

    def test_inside_of_while(self):
        text = (
            "main() { let i = 0; while i < 6 max 6 { if i mod 2 { out i; } else { if i == 4 { out 0 - i; } }"
            " i = i + 1; } out 9; }"
        )
        self.assert_outs([1, 3, -4, 5, 9], text)

    def test_procedures_declared_in_any_order(self):
        text = "proc a() { b(); out 1; } main() { a(); c(); } proc b() { out 2; }"
        text = text.replace("main() { a(); c(); } ", "") + " proc c() { a(); out 3; b(); } main() { a(); c(); }"
        self.assert_outs([2, 1, 2, 1, 3, 2], text)


if __name__ == "__main__":
    unittest.main()
