"""[6] and [35]: the fixed form, and what the operators bind."""

import unittest

from tests import trees
from tests.helpers import TextCase, printed, printed_expression

LEVEL_SIGNS = ("or", "and", "==", "<", "+", "-", "*", "mod")


def applied(act, operands):
    """The tree of one operator over the first operands; they are used up."""
    if act in ("not", "neg"):
        return (act, operands.pop(0))
    return (act, operands.pop(0), operands.pop(0))


def beside(outer, inner):
    """The trees of an operator with another one as any of its operands."""
    for place in range(1 if outer in ("not", "neg") else 2):
        operands = ["a", "b"]
        operands.insert(place, applied(inner, ["c", "1"]))
        yield applied(outer, operands)


class OperatorsTest(TextCase):
    def check(self, tree):
        """The fixed form has the same tree, the blanks, and no needless parentheses."""
        text = printed_expression(trees.bracketed(tree))
        self.assertEqual(trees.tree(text), tree, text)
        self.assertEqual(trees.spaced(text), text)
        self.assertEqual(printed_expression(text), text)
        for shorter in trees.without_each_pair(text):
            try:
                same = trees.tree(shorter) == tree
            except trees.NoTree:
                same = False
            self.assertFalse(same, text)

    def test_every_operator_beside_every_other_one(self):
        for outer in (*trees.BINARY, "not", "neg"):
            for inner in (*trees.BINARY, "not", "neg"):
                for tree in beside(outer, inner):
                    self.check(tree)

    def test_three_operators(self):
        signs = (*LEVEL_SIGNS, "not", "neg")
        for first in signs:
            for second in signs:
                for inner in beside(second, "+"):
                    self.check(applied(first, [inner, "x"]))
                    if first not in ("not", "neg"):
                        self.check((first, "x", inner))
                for third in signs:
                    both = [applied(second, ["a", "b"]), applied(third, ["c", "d"])]
                    if first not in ("not", "neg"):
                        self.check((first, *both))

    def test_inside_of_places(self):
        for sign in (*trees.BINARY, "not", "neg"):
            index = applied(sign, ["a", ("==", "b", "1")])
            self.check(("[]", "x", index))
            self.check((".", (".", ("[]", "x", index), "next"), "value"))
            self.check(applied(sign, [("[]", "x", index), (".", "y", "next")]))

    def test_what_the_words_alone_mean(self):
        for text in (
            "a or b and c", "a and b or c", "not a and b", "not a or b", "not a == b",
            "a == b and c", "a and b == c", "a + b == c * d", "a - b - c", "a + b - c",
            "a / b * c mod d", "a - b * c", "a * b - c", "-a * b", "-a + b", "a * -b",
            "a - -b", "--a", "---a", "not not a", "not -a", "not a + b < c", "-a[1].b",
            "a and not b and c", "a or not b and c", "not a == b or not c", "none == none",
            "a == -b", "a * --b * c", "a mod b mod c",
        ):
            self.assertEqual(printed_expression(text), text)
            self.assertEqual(
                printed_expression(trees.bracketed(trees.tree(text))), text
            )

    def test_needed_parentheses(self):
        for text in (
            "(a or b) and c", "a and (b or c)", "a or (b or c)", "a and (b and c)",
            "not (a and b)", "not (a or b)", "(not a) == b", "a == (not b)", "(a == b) == c",
            "a == (b == c)", "(a < b) + 1", "1 + (a < b)", "a - (b - c)", "a + (b + c)",
            "a - (b + c)", "(a + b) * c", "a * (b + c)", "a * (b * c)", "a / (b * c)",
            "a mod (b mod c)", "-(a + b)", "-(a * b)", "-(not a)", "-(a == b)", "(not a) + b",
            "a * (not b)", "(a and b) == c", "(a or b) < (c or d)", "-(a mod b)",
        ):
            self.assertEqual(printed_expression(text), text)

    def test_needless_parentheses(self):
        for text, fixed in (
            ("(a)", "a"),
            ("((a))", "a"),
            ("(((1)))", "1"),
            ("(none)", "none"),
            ("-(a)", "-a"),
            ("-(-(a))", "--a"),
            ("not(a)", "not a"),
            ("not(not(a))", "not not a"),
            ("(a+b)+c", "a + b + c"),
            ("(a*b)+(c*d)", "a * b + c * d"),
            ("(not a)and(not b)", "not a and not b"),
            ("not(a==b)", "not a == b"),
            ("(a[(1)].b)", "a[1].b"),
            ("a[(b+(c))]", "a[b + c]"),
            ("(-a)*(-b)", "-a * -b"),
            ("a-(-b)", "a - -b"),
            ("(a and b)or(c and d)", "a and b or c and d"),
            ("(a == b) and (c == d)", "a == b and c == d"),
        ):
            self.assertEqual(printed_expression(text), fixed)

    def test_numbers_and_names_stay(self):
        for text in ("0", "999999999999999999", "abc_9", "a.b.c", "a[0].b.c", "a[b[c[1]]]"):
            self.assertEqual(printed_expression(text), text)


class FormTest(TextCase):
    def test_declarations(self):
        self.assert_fixed(
            "table node 4{next:node,value:word}table t 1{a:t}var x:word;var a[3]:node;"
            "proc p(){}proc q(a1:word,b:node){}main(n:word,m:word){}",
            [
                "table node 4 { next: node, value: word }",
                "table t 1 { a: t }",
                "var x: word;",
                "var a[3]: node;",
                "proc p() {",
                "}",
                "proc q(a1: word, b: node) {",
                "}",
                "main(n: word, m: word) {",
                "}",
            ],
        )

    def test_statements(self):
        self.assert_fixed(
            "main(){let a=1;let b=new t;let c=none;x=1;x=new t;x=none;x[1]=2;x.a=3;x[i+1].a.b=-4;"
            "p();p(1);p(1,b[2].next,(3));sync;out 1;out(1);atomic{}if x{}while x max 3{}}",
            [
                "main() {",
                "    let a = 1;",
                "    let b = new t;",
                "    let c = none;",
                "    x = 1;",
                "    x = new t;",
                "    x = none;",
                "    x[1] = 2;",
                "    x.a = 3;",
                "    x[i + 1].a.b = -4;",
                "    p();",
                "    p(1);",
                "    p(1, b[2].next, 3);",
                "    sync;",
                "    out 1;",
                "    out 1;",
                "    atomic {",
                "    }",
                "    if x {",
                "    }",
                "    while x max 3 {",
                "    }",
                "}",
            ],
        )

    def test_else(self):
        self.assert_fixed(
            "main(){if a{}else{}if a{x=1;}else{}if a{}else{x=1;}if a{x=1;}else{y=2;}}",
            [
                "main() {",
                "    if a {",
                "    }",
                "    if a {",
                "        x = 1;",
                "    }",
                "    if a {",
                "    } else {",
                "        x = 1;",
                "    }",
                "    if a {",
                "        x = 1;",
                "    } else {",
                "        y = 2;",
                "    }",
                "}",
            ],
        )

    def test_else_inside_of_else(self):
        self.assert_fixed(
            "main(){if a{if b{}else{}}else{if c{}else{}}if a{}else{if b{}else{sync;}}}",
            [
                "main() {",
                "    if a {",
                "        if b {",
                "        }",
                "    } else {",
                "        if c {",
                "        }",
                "    }",
                "    if a {",
                "    } else {",
                "        if b {",
                "        } else {",
                "            sync;",
                "        }",
                "    }",
                "}",
            ],
        )

    def test_blocks_inside_of_each_other(self):
        heads = {"if a": "if a{", "while a max 0": "while a max 0{", "atomic": "atomic{"}
        for outer in heads:
            for inner in heads:
                for last in heads:
                    self.assert_fixed(
                        "proc p(){" + heads[outer] + heads[inner] + heads[last] + "out 1;}}sync;}}"
                        "main(){p();}",
                        [
                            "proc p() {",
                            "    " + outer + " {",
                            "        " + inner + " {",
                            "            " + last + " {",
                            "                out 1;",
                            "            }",
                            "        }",
                            "        sync;",
                            "    }",
                            "}",
                            "main() {",
                            "    p();",
                            "}",
                        ],
                    )

    def test_conditions_lose_their_parentheses(self):
        self.assert_fixed(
            "main(){if(a){}while(a[0])max 2{}while a*(b+c)max 2{}out(none);x=(y);}",
            [
                "main() {",
                "    if a {",
                "    }",
                "    while a[0] max 2 {",
                "    }",
                "    while a * (b + c) max 2 {",
                "    }",
                "    out none;",
                "    x = y;",
                "}",
            ],
        )

    def test_the_examples_of_the_form(self):
        self.assert_fixed(
            "var a [ 3 ] : word ; main ( ) { f ( 1 , b [ 2 ] . next ) ; out - a ; out - - a ; out not a ; }",
            [
                "var a[3]: word;",
                "main() {",
                "    f(1, b[2].next);",
                "    out -a;",
                "    out --a;",
                "    out not a;",
                "}",
            ],
        )

    def test_programs_with_faults_have_a_form_too(self):
        self.assert_fixed(
            "var x:word;var x:nosuch;table t 99{a:b,a:b}main(t:t){out none;let x=none;}",
            [
                "var x: word;",
                "var x: nosuch;",
                "table t 99 { a: b, a: b }",
                "main(t: t) {",
                "    out none;",
                "    let x = none;",
                "}",
            ],
        )

    def test_no_line_break_at_the_end(self):
        self.assertEqual(printed("\n main(){}\n\n"), "main() {\n}")


if __name__ == "__main__":
    unittest.main()
