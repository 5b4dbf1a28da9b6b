"""[3]: the words of a text."""

import string
import unittest

from tests.grammar import RESERVED, SIGNS
from tests.helpers import TextCase, malformed_at, printed

NAMES = ("a", "z", "a1", "a_", "a_b_c", "x9_", "abcdefghijkl", "a00000000000", "a___________")
NUMBERS = ("0", "1", "9", "10", "100", "999999999999999999", "123456789012345678")
NO_ROWS = (
    "00", "007", "01", "0_", "0a", "9a", "1_000", "1e5", "_", "_x", "__", "_1", "_word",
    "abcdefghijklm", "a000000000000", "a____________", "variablename1",
    "1234567890123456789", "1000000000000000000", "0000000000000000000", "9" * 5000,
    "a" * 3000, "12345678901234567a", "abcdefghijkl_",
)


class RowsTest(TextCase):
    def test_reserved_words_are_the_listed_ones(self):
        self.assertEqual(len(RESERVED), 19)
        for word in RESERVED:
            self.assert_malformed("main() { let @" + word + " = 1; }")
            self.assert_malformed("var @" + word + ": word; main() {}")
            self.assert_malformed("main() { x.@" + word + " = 1; }")
            self.assert_malformed("proc @" + word + "() {} main() {}")
            self.assert_malformed("table @" + word + " 1 { a: word } main() {}")
            self.assert_malformed("table t 1 { @" + word + ": word } main() {}")

    def test_a_reserved_word_inside_of_a_longer_row(self):
        for word in RESERVED:
            for name in (word + "s", word + "_", word + "1", "a" + word):
                self.assert_reads("main() { let " + name + " = 1; }")

    def test_each_reserved_word_where_it_stands(self):
        self.assert_reads(
            "table t 2 { a: word, b: t } var x: word; proc p() { sync; } main() { let y = new t;"
            " if not x or x and x mod 2 { } else { while x max 3 { } } atomic { y = none; } out 1;"
            " p(); }"
        )

    def test_names(self):
        for name in NAMES:
            self.assert_reads("main() { let " + name + " = 1; out " + name + "; }")
            self.assert_reads("var " + name + ": word; main() {}")
            self.assert_reads("main(" + name + ": " + name + ") { " + name + "(); }")

    def test_numbers(self):
        for number in NUMBERS:
            self.assertEqual(
                printed("main() { out " + number + "; }"), "main() {\n    out " + number + ";\n}"
            )
            self.assert_reads("table t " + number + " { a: word } main() {}")
            self.assert_reads("var a[" + number + "]: word; main() {}")
            self.assert_reads("main() { while 1 max " + number + " {} }")

    def test_rows_that_are_no_words(self):
        for row in NO_ROWS:
            self.assert_malformed("main() { out @" + row + "; }")
            self.assert_malformed("main() { let @" + row + " = 1; }")
            self.assert_malformed("@" + row)
            self.assert_malformed("table t @" + row + " { a: word }")
            self.assert_malformed("\n\n  main() {\n  out 1 +\n @" + row + "*2; }")

    def test_a_name_is_no_number(self):
        self.assert_malformed("table t @a { b: word } main() {}")
        self.assert_malformed("var t[@a]: word; main() {}")
        self.assert_malformed("main() { while 1 max @a {} }")
        self.assert_malformed("var @1: word; main() {}")
        self.assert_malformed("main() { let @1 = 2; }")
        self.assert_malformed("main() { a.@1 = 2; }")

    def test_capital_letters_stand_in_no_row(self):
        self.assert_malformed("var@A")
        self.assert_malformed("var@A: word; main() {}")
        self.assert_malformed("var @A: word; main() {}")
        self.assert_malformed("var a@A: word; main() {}")
        self.assert_malformed("var a1@Ab: word; main() {}")
        self.assert_malformed("@VAR a: word; main() {}")
        self.assert_malformed("main() { out 12@E3; }")
        self.assert_malformed("main() { out @_A; }")
        self.assert_malformed("main() { out 9@A; }")


class CharactersTest(TextCase):
    def test_other_characters(self):
        known = string.ascii_lowercase + string.digits + "_{}()[]:;,.=<>+-*/ \n@"
        others = [chr(code) for code in range(128) if chr(code) not in known]
        for sign in others + ["\u00e9", "\u00df", "\u0661", "\u00b2", "\u00a0", "\u2028"]:
            self.assert_malformed("main() { out 1 @" + sign + " 2; }")
            self.assert_malformed("main() { out 1@" + sign + "2; }")
            self.assert_malformed("main() { out a@" + sign + "; }")
            self.assert_malformed("@" + sign)
            self.assert_malformed("main() {}@" + sign)
            self.assert_malformed("main() {}\n @" + sign + "\n")

    def test_the_mark_of_these_tests(self):
        self.assertEqual(malformed_at("main() { out @; }"), (1, 14))

    def test_tabs_and_returns_are_no_blanks(self):
        self.assert_malformed("@\tmain() {}")
        self.assert_malformed("main() {@\r\n}")

    def test_a_lone_exclamation_mark(self):
        self.assert_malformed("main() { out a @! = b; }")
        self.assert_malformed("main() { out @!a; }")
        self.assert_malformed("main() { out a @!")


class SignsTest(TextCase):
    def test_each_sign_where_it_stands(self):
        self.assert_reads("table t 2{a:t,b:word}var x[3]:word;main(){x[0].a=-1;p(1,(2));}")
        for sign in "== != < <= > >= + - * /".split():
            self.assert_reads("main() { out a" + sign + "b; }")
            self.assertEqual(
                printed("main() { out a" + sign + "b; }"), f"main() {{\n    out a {sign} b;\n}}"
            )

    def test_a_sign_is_as_long_as_possible(self):
        self.assert_malformed("main() { a @== 1; }")
        self.assert_malformed("main() { a @=== 1; }")
        self.assert_malformed("main() { out a ==@= 1; }")
        self.assert_malformed("main() { out a ==@== 1; }")
        self.assert_malformed("main() { out a <=@= 1; }")
        self.assert_malformed("main() { out a !=@= 1; }")
        self.assert_malformed("main() { out a <@> 1; }")
        self.assert_malformed("main() { out a >@< 1; }")
        self.assert_malformed("main() { a @>= 1; }")
        self.assert_malformed("main() { out a @= = 1; }")
        self.assert_malformed("main() { a = @= 1; }")

    def test_signs_that_are_no_words_together(self):
        self.assertEqual(printed("main(){out--1;}"), "main() {\n    out --1;\n}")
        self.assertEqual(printed("main(){out 1--1;}"), "main() {\n    out 1 - -1;\n}")
        self.assertEqual(printed("main(){a=-1;}"), "main() {\n    a = -1;\n}")
        self.assertEqual(printed("main(){out a<-1;}"), "main() {\n    out a < -1;\n}")
        self.assert_malformed("main() { out 1 -@> 1; }")
        self.assert_malformed("main() { out 1 +@+ 1; }")

    def test_each_sign_alone_is_no_program(self):
        for sign in SIGNS:
            self.assert_malformed("@" + sign)


class BlanksTest(TextCase):
    def test_blanks_and_line_breaks_around_everything(self):
        words = "table t 2 { a : t , b : word } var x [ 3 ] : word ; main ( n : word ) {".split()
        words += "x [ 0 ] = ( n + 1 ) ; while n <= 2 max 3 { } }".split()
        fixed = printed(" ".join(words))
        for gap in ("\n", "  ", "\n\n", " \n ", "\n    "):
            self.assertEqual(printed(gap.join(words)), fixed)
            self.assertEqual(printed(gap + gap.join(words) + gap), fixed)

    def test_ahead_of_the_first_word_and_behind_the_last_one(self):
        for before in ("", " ", "\n", "   ", "\n\n \n"):
            for behind in ("", " ", "\n", "   ", "\n\n \n"):
                self.assertEqual(printed(before + "main(){}" + behind), "main() {\n}")

    def test_no_blanks_where_none_are_needed(self):
        self.assertEqual(
            printed("table t 2{a:t}var x[3]:word;proc p(){}main(){x[0]=(1)mod(2);p();}"),
            "table t 2 { a: t }\nvar x[3]: word;\nproc p() {\n}\n"
            "main() {\n    x[0] = 1 mod 2;\n    p();\n}",
        )
        self.assert_reads("main(){if(1){}else{}while(1)max 2{}out(1)and(2)or(not(3));out-1;}")

    def test_blanks_that_are_needed(self):
        self.assert_malformed("@varx: word; main() {}")
        self.assertEqual(printed("main() { letx = 1; }"), "main() {\n    letx = 1;\n}")
        self.assert_malformed("main() { letx @y = 1; }")
        self.assert_malformed("main() { outx@; }")
        self.assert_malformed("main() { out @1mod 2; }")
        self.assert_malformed("main() { while 1 @max2 {} }")
        self.assert_malformed("main() { out 1 @or2; }")
        self.assert_malformed("main() { out 1 @not 2; }")

    def test_no_blanks_inside_of_words(self):
        self.assert_malformed("@ma in() {}")
        self.assert_malformed("main() { out 1 < @= 2; }")
        self.assert_malformed("main() { out a @= = 2; }")
        self.assert_malformed("main() { out 1 @2; }")
        self.assert_malformed("main() { out ab @cd; }")

    def test_places_count_blanks_and_line_breaks(self):
        self.assert_malformed("   @x")
        self.assert_malformed("\n\n  @x")
        self.assert_malformed("main()\n{\n\n   out @;\n}")
        self.assert_fault("name", "\n\n main() {\n\n   let a = 1;  out a +\n  @b; }")


if __name__ == "__main__":
    unittest.main()
