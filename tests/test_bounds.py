"""[2]: programs up to the bounds, and somewhat beyond them."""

import unittest

from tests.helpers import TextCase, fault_of, malformed_at, printed, printed_expression

DEPTHS = (1, 39, 40, 41, 60, 150)
LONGEST = 4000


class DeepTest(TextCase):
    def test_blocks(self):
        for head in ("if 1", "while 1 max 1", "if 1 { } else"):
            for depth in DEPTHS:
                text = "main() { " + (head + " { ") * depth + "out 1; " + "} " * depth + "}"
                self.assert_fine(text)
                self.assertIn("\n" + "    " * (depth + 1) + "out 1;\n", printed(text))
                self.assertEqual(printed(printed(text)), printed(text))
                self.assert_fault("kind", text.replace("out 1", "out @none"))
                self.assert_malformed(text.replace("out 1", "out @"))
                self.assertEqual(malformed_at(text[:-1]), (1, len(text)))

    def test_atomic_blocks(self):
        for depth in DEPTHS[1:]:
            text = "main() { atomic { @" + "atomic { " * (depth - 1) + "} " * depth + "}"
            self.assert_fault("atomic", text)

    def test_parentheses(self):
        for depth in DEPTHS:
            text = "(" * depth + "1" + ")" * depth
            self.assertEqual(printed_expression(text), "1")
            self.assert_fine("main() { out " + text + "; }")
            self.assert_fault("kind", "main() { out @" + text.replace("1", "none") + "; }")
            self.assert_malformed("main() { out " + text + "@); }")
            self.assert_malformed("main() { out (" + text + "@; }")

    def test_needed_parentheses(self):
        for depth in DEPTHS:
            text = "1 - (" * depth + "a * b" + ")" * depth
            fixed = "1 - (" * (depth - 1) + "1 - a * b" + ")" * (depth - 1)
            self.assertEqual(printed_expression(text), fixed)
            self.assertEqual(printed_expression(fixed), fixed)

    def test_indexes(self):
        for depth in DEPTHS:
            text = "a[" * depth + "i" + "]" * depth
            self.assertEqual(printed_expression(text), text)
            self.assert_fine("var a[3]: word; main(i: word) { " + text + " = " + text + "; }")
            self.assert_fault(
                "name", "var a[3]: word; main(i: word) { " + text.replace("i", "@j") + " = 1; }"
            )

    def test_prefix_operators(self):
        for depth in DEPTHS:
            for sign in ("-", "not "):
                self.assertEqual(printed_expression(sign * depth + "a"), sign * depth + "a")
                self.assert_fine("main(a: word) { out " + sign * depth + "a; }")
                self.assert_fault("kind", "main() { out " + sign * depth + "@none; }")
                self.assert_malformed("main() { out " + sign * depth + "@; }")

    def test_fields(self):
        for depth in DEPTHS:
            rows = "n" + ".g" * depth + " = n" + ".g" * depth + ";"
            self.assert_fine("table t 1 { g: t } var n: t; main() { " + rows + " }")

    def test_operators_in_a_row(self):
        for depth in DEPTHS:
            for sign in ("or", "and", "+", "-", "*", "mod"):
                text = "a" + f" {sign} a" * depth
                self.assertEqual(printed_expression(text), text)
                self.assert_fine("main(a: word) { out " + text + "; }")
                self.assert_fault("kind", "main(a: word) { out " + text[:-1] + "@none; }")
                self.assertEqual(printed_expression("(" * depth + text.replace(f" {sign} a", f" {sign} a)")), text)


class LongTest(TextCase):
    def long_text(self, before, part, behind):
        return before + part * ((LONGEST - len(before) - len(behind)) // len(part)) + behind

    def test_the_longest_programs(self):
        for before, part, behind in (
            ("var x: word; main() { ", "x = x + 1; ", "}"),
            ("var x: word; main() { ", "if x { } else { x = 1; } ", "}"),
            ("proc p() { } main() { ", "p(); ", "}"),
            ("main() { ", "sync; ", "}"),
            ("main() { ", "out 1;\n", "}"),
            ("main() { out 1", " + 1", "; }"),
            ("main() { out ", "-", "1; }"),
            ("main() { }", " ", ""),
            ("", "\n", "main() { }"),
            ("table t 1 { g: t } var n: t; main() { n = n", ".g", "; }"),
        ):
            text = self.long_text(before, part, behind)
            self.assertLessEqual(len(text), LONGEST)
            self.assertGreater(len(text), LONGEST - 40)
            self.assert_fine(text)
            self.assertEqual(printed(printed(text)), printed(text))

    def test_many_procedures(self):
        rows = []
        while len("".join(rows)) < LONGEST:
            rows.append(f"proc p{len(rows)}(){{p{len(rows) + 1}();}}")
        many = len(rows)
        end = f"proc p{many}(){{sync;}}main(){{p0();}}"
        self.assert_fine("".join(rows) + end)
        self.assert_fault("atomic", "".join(rows) + end.replace("p0();", "atomic{@p0();}"))
        text = "".join(rows) + end.replace("sync;", "p0();")
        self.assertEqual(fault_of(text), ("call", 1, text.index("p1();") + 1))

    def test_a_fault_at_the_end(self):
        text = self.long_text("main(k: word) { ", "k = k * 2;\n", "k = none; }")
        line = text.count("\n") + 1
        self.assertEqual(fault_of(text), ("kind", line, 5))
        self.assertEqual(malformed_at(text + "x"), (line, len("k = none; }") + 1))


if __name__ == "__main__":
    unittest.main()
