"""[4] to [7]: which word cannot stand."""

import unittest

from tests import grammar
from tests.helpers import TextCase, malformed_at

WHOLE = """
table node 4 { next : node , value : word } table t 1 { a : t }
var x : word ; var a [ 3 ] : node ;
proc p ( ) { } proc q ( m : word , n : node ) { sync ; p ( ) ; }
main ( k : word ) {
let n = new node ; let m = - a [ k - 1 ] . next . value ; n . next = none ; a [ a [ 0 ] . value ] = n ;
x = ( not k == 1 or x ) and 2 * - ( 3 + 4 ) mod 5 / 6 < 7 ;
q ( 1 , n ) ; q ( a , b , ( c ) ) ;
if x { out 1 ; } if x { } else { if y { } else { } out 2 ; }
while k >= 1 max 10 { atomic { x = 1 ; } k = k - 1 ; }
atomic { } out not not 1 ; a [ 1 ] . next . value = new t ;
}
""".split()
CANDIDATES = (
    *grammar.RESERVED, *grammar.SIGNS, "x", "newer", "0", "12", "00", "9a", "_", "A", "!", "tooooooolongg",
)
OPERAND_WORDS = "a 1 none ( ) [ ] . - not + == and".split()


class SystematicTest(unittest.TestCase):
    def test_each_word_behind_each_beginning(self):
        stacks = grammar.begun()
        before = ""
        for word in WHOLE:
            for candidate in CANDIDATES:
                self.check(stacks, before, candidate)
            stacks = grammar.after(stacks, grammar.form_of(word))
            self.assertTrue(stacks, before + word)
            before += word + " "
        for candidate in CANDIDATES:
            self.check(stacks, before, candidate)
        self.assertIsNone(malformed_at(before))

    def check(self, stacks, before, candidate):
        """The beginning stands; the candidate stands as the grammar tells."""
        text = before + candidate
        stacks = grammar.after(stacks, grammar.form_of(candidate))
        if () in stacks:
            expected = None
        elif stacks:
            expected = (1, len(text) + 1)
        else:
            expected = (1, len(before) + 1)
        self.assertEqual(malformed_at(text), expected, text)
        if not stacks:
            self.assertEqual(malformed_at(text + "\n} 9a A"), expected, text)

    def test_short_expressions(self):
        stacks = grammar.begun()
        for word in "main ( ) { out".split():
            stacks = grammar.after(stacks, word)
        self.grow(stacks, "main ( ) { out ", 4)

    def grow(self, stacks, before, most):
        for word in OPERAND_WORDS:
            self.check(stacks, before, word)
            deeper = grammar.after(stacks, grammar.form_of(word))
            if deeper and most > 1:
                self.grow(deeper, before + word + " ", most - 1)


class PlacesTest(TextCase):
    def test_texts_that_end_too_early(self):
        self.assertEqual(malformed_at(""), (1, 1))
        self.assertEqual(malformed_at(" "), (1, 2))
        self.assertEqual(malformed_at("\n"), (2, 1))
        self.assertEqual(malformed_at("\n\n"), (3, 1))
        self.assertEqual(malformed_at("\n  "), (2, 3))
        self.assertEqual(malformed_at("main"), (1, 5))
        self.assertEqual(malformed_at("main()"), (1, 7))
        self.assertEqual(malformed_at("main() {"), (1, 9))
        self.assertEqual(malformed_at("main() {\n"), (2, 1))
        self.assertEqual(malformed_at("main() {\n  "), (2, 3))
        self.assertEqual(malformed_at("main() {\n  x = 1;"), (2, 9))
        self.assertEqual(malformed_at("var x: word;"), (1, 13))
        self.assertEqual(malformed_at("var x: word;\n\n"), (3, 1))
        self.assertEqual(malformed_at("proc p() {}"), (1, 12))
        self.assertEqual(malformed_at("table t 1 { a: word }\n"), (2, 1))
        self.assertEqual(malformed_at("main() { if 1 {}"), (1, 17))
        self.assertEqual(malformed_at("main() { if 1 {} else"), (1, 22))

    def test_words_are_looked_at_whole(self):
        self.assert_malformed("@mai")
        self.assert_malformed("@mainn() {}")
        self.assert_malformed("@tabl")
        self.assert_malformed("main() { out a @=")
        self.assert_malformed("main() { whil@")
        self.assert_malformed("main() { atomic @x")

    def test_only_the_first_word_that_cannot_stand_matters(self):
        self.assert_malformed("main( @{} 9a")
        self.assert_malformed("main() { } @A 00")
        self.assert_malformed("main() @; 9a")
        self.assert_malformed("main() { x @y 00 }")
        self.assert_malformed("main() { x @9y = y y }")
        self.assert_malformed("main() { x @y\n\n9a A _ !")
        self.assert_malformed("@word 9a")
        self.assert_malformed("main() {} @main() { 9a }")

    def test_behind_the_end(self):
        for word in ("x", "1", "main", "var", ";", "}", "{", "table", "proc"):
            self.assert_malformed("main() {} @" + word)
            self.assert_malformed("main() {}\n\n  @" + word + " y")

    def test_declarations(self):
        self.assert_malformed("table t 1 {@}")
        self.assert_malformed("table t 1 { a: word,@}")
        self.assert_malformed("table t 1 { a: word @b: word }")
        self.assert_malformed("table t 1 { a: word@; }")
        self.assert_malformed("table t@[1] { a: word }")
        self.assert_malformed("table t @{ a: word }")
        self.assert_malformed("table t 1 { a@[1]: word }")
        self.assert_malformed("table t 1 { a: word }@;")
        self.assert_malformed("var x@;")
        self.assert_malformed("var x: @none;")
        self.assert_malformed("var x: word @= 1;")
        self.assert_malformed("var x[@]: word;")
        self.assert_malformed("var x[1 @+ 1]: word;")
        self.assert_malformed("var x[@-1]: word;")
        self.assert_malformed("var x: word@[3];")
        self.assert_malformed("var x@, y: word;")
        self.assert_malformed("proc p@{}")
        self.assert_malformed("proc p(a@) {}")
        self.assert_malformed("proc p(a: word,@) {}")
        self.assert_malformed("proc p(@, a: word) {}")
        self.assert_malformed("proc p(a: word @b: word) {}")
        self.assert_malformed("proc p(a: word)@;")
        self.assert_malformed("proc p() {}@; main() {}")
        self.assert_malformed("proc @main() {}")
        self.assert_malformed("main@{}")
        self.assert_malformed("main() {} @var x: word;")
        self.assert_malformed("@let x = 1; main() {}")

    def test_statements(self):
        self.assert_malformed("main() { @; }")
        self.assert_malformed("main() { @{ } }")
        self.assert_malformed("main() { @1 = 2; }")
        self.assert_malformed("main() { @(a) = 2; }")
        self.assert_malformed("main() { @none = 2; }")
        self.assert_malformed("main() { @new t; }")
        self.assert_malformed("main() { @else {} }")
        self.assert_malformed("main() { @var x: word; }")
        self.assert_malformed("main() { @main(); }")
        self.assert_malformed("main() { x@; }")
        self.assert_malformed("main() { x = 1 @}")
        self.assert_malformed("main() { x = @; }")
        self.assert_malformed("main() { x @+ 1 = 2; }")
        self.assert_malformed("main() { x[1]@[2] = 3; }")
        self.assert_malformed("main() { x.a@[2] = 3; }")
        self.assert_malformed("main() { x[@] = 3; }")
        self.assert_malformed("main() { x.@= 3; }")
        self.assert_malformed("main() { x[1]@(2); }")
        self.assert_malformed("main() { x.a@(2); }")
        self.assert_malformed("main() { let x@; }")
        self.assert_malformed("main() { let x@.a = 1; }")
        self.assert_malformed("main() { let x@[1] = 1; }")
        self.assert_malformed("main() { let x = new @1; }")
        self.assert_malformed("main() { let x = new @word; }")
        self.assert_malformed("main() { let x = new t@.a; }")
        self.assert_malformed("main() { let x = new t @+ 1; }")
        self.assert_malformed("main() { let x = (@new t); }")
        self.assert_malformed("main() { let x = 1 + @new t; }")
        self.assert_malformed("main() { out @new t; }")
        self.assert_malformed("main() { p(@new t); }")
        self.assert_malformed("main() { p(1,@); }")
        self.assert_malformed("main() { p(@, 1); }")
        self.assert_malformed("main() { p(1 @2); }")
        self.assert_malformed("main() { p() @}")
        self.assert_malformed("main() { p()@.a = 1; }")
        self.assert_malformed("main() { x = p@(1); }")
        self.assert_malformed("main() { if @{ } }")
        self.assert_malformed("main() { if 1 @out 1; }")
        self.assert_malformed("main() { if 1 { } else @if 2 { } }")
        self.assert_malformed("main() { if 1 { } else { } @else { } }")
        self.assert_malformed("main() { if 1 { }@; }")
        self.assert_malformed("main() { while 1 @{ } }")
        self.assert_malformed("main() { while 1 max @-1 { } }")
        self.assert_malformed("main() { while 1 max @a { } }")
        self.assert_malformed("main() { while 1 max 2 @+ 3 { } }")
        self.assert_malformed("main() { while 1 max 2 { } @else { } }")
        self.assert_malformed("main() { while @max 2 { } }")
        self.assert_malformed("main() { atomic { } @else { } }")
        self.assert_malformed("main() { atomic @1 { } }")
        self.assert_malformed("main() { sync @1; }")
        self.assert_malformed("main() { sync @}")
        self.assert_malformed("main() { out@; }")
        self.assert_malformed("main() { out 1@, 2; }")

    def test_expressions(self):
        self.assert_malformed("main() { out 1 @2; }")
        self.assert_malformed("main() { out 1 +@; }")
        self.assert_malformed("main() { out @+ 1; }")
        self.assert_malformed("main() { out @* 1; }")
        self.assert_malformed("main() { out (@); }")
        self.assert_malformed("main() { out (1@; }")
        self.assert_malformed("main() { out (1@]; }")
        self.assert_malformed("main() { out a[1@); }")
        self.assert_malformed("main() { out a[(1@]; }")
        self.assert_malformed("main() { out 1@); }")
        self.assert_malformed("main() { out 1@]; }")
        self.assert_malformed("main() { out a[1]@[2]; }")
        self.assert_malformed("main() { out a.b@[2]; }")
        self.assert_malformed("main() { out (a)@[2]; }")
        self.assert_malformed("main() { out (a)@.b; }")
        self.assert_malformed("main() { out 1@.b; }")
        self.assert_malformed("main() { out none@.b; }")
        self.assert_malformed("main() { out a.@1; }")
        self.assert_malformed("main() { out a.@word; }")
        self.assert_malformed("main() { out a@(1); }")

    def test_one_comparison_between_two_sums(self):
        signs = "== != < <= > >=".split()
        for first in signs:
            for second in signs:
                self.assert_malformed(f"main() {{ out a {first} b @{second} c; }}")
                self.assert_malformed(f"main() {{ out a {first} b + 1 @{second} c; }}")
                self.assert_malformed(f"main() {{ out a {first} -b * 2 @{second} c; }}")
                self.assert_malformed(f"main() {{ out not a {first} b @{second} c; }}")
                self.assert_malformed(f"main() {{ out (a {first} b @{second} c); }}")
                self.assert_malformed(f"main() {{ out x[a {first} b @{second} c]; }}")
                self.assert_reads(f"main() {{ out (a {first} b) {second} c; }}")
                self.assert_reads(f"main() {{ out a {first} (b {second} c); }}")
                self.assert_reads(f"main() {{ out a {first} x[b {second} c]; }}")
                self.assert_reads(f"main() {{ out a {first} b and c {second} d; }}")
                self.assert_reads(f"main() {{ out a {first} b or not c {second} d; }}")

    def test_not_stands_only_where_its_level_may(self):
        for sign in "== != < <= > >= + - * / mod".split():
            self.assert_malformed(f"main() {{ out a {sign} @not b; }}")
            self.assert_malformed(f"main() {{ out a {sign} -@not b; }}")
            self.assert_reads(f"main() {{ out a {sign} (not b); }}")
            self.assert_reads(f"main() {{ out a {sign} x[not b]; }}")
            self.assert_reads(f"main() {{ out not a {sign} b; }}")
        self.assert_malformed("main() { out -@not b; }")
        self.assert_malformed("main() { out not -@not b; }")
        for sign in ("and", "or"):
            self.assert_reads(f"main() {{ out a {sign} not b; }}")
            self.assert_reads(f"main() {{ out a {sign} not not b; }}")
            self.assert_reads(f"main() {{ out not a {sign} not -b; }}")


if __name__ == "__main__":
    unittest.main()
