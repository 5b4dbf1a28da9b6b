"""[8]: the faults of programs."""

import unittest

from tests.helpers import TextCase, fault_of

TABLES = "table node 4 { next: node, value: word } table t 2 { a: t, b: word } "
VARS = "var x: word; var y: word; var n: node; var m: node; var r: t; var a[3]: word; var c[3]: node; "


def inside(rows):
    """A program with tables and variables and these statements in `main`."""
    return TABLES + VARS + "proc p(k: word, l: node) { } main(i: word) { " + rows + " }"


class NameTest(TextCase):
    def test_first_scope(self):
        declared = {
            "table": "table %s 1 { f: word } ",
            "variable": "var %s: word; ",
            "array": "var %s[2]: word; ",
            "procedure": "proc %s() { } ",
        }
        for first in declared.values():
            for second in declared.values():
                self.assert_fault("name", first % "z" + second % "@z" + "main() { }")
                self.assert_fault(
                    "name", first % "z" + second % "b" + second % "@z" + first % "z" + "main() { }"
                )
                self.assert_fine(first % "z" + second % "b" + "main() { }")

    def test_the_third_declaration_comes_behind_the_second_one(self):
        self.assert_fault("name", "var z: word; var @z: word; var z: word; main() { }")

    def test_fields_have_their_own_scope(self):
        self.assert_fault("name", "table t 1 { f: word, @f: word } main() { }")
        self.assert_fault("name", "table t 1 { f: word, g: t, @f: t } main() { }")
        self.assert_fine("table t 1 { f: word } table s 1 { f: word, t: t, s: s } main() { }")
        self.assert_fine("table t 1 { t: t, v: word, p: word } var v: t; proc p() { } main(f: word) { }")
        self.assert_fine("table t 1 { f: word } var f: word; main() { let g = f; }")

    def test_parameters(self):
        self.assert_fault("name", "proc p(k: word, @k: word) { } main() { }")
        self.assert_fault("name", "main(k: word, l: word, @k: word) { }")
        self.assert_fine("proc p(k: word) { } proc q(k: word) { } main(k: word) { }")
        for other in ("table z 1 { f: word }", "var z: word;", "var z[2]: word;", "proc z() { }"):
            self.assert_fault("name", other + " proc p(@z: word) { } main() { }")
            self.assert_fault("name", other + " main(@z: word) { }")
            # Also ahead of the declaration, which has no fault itself.
            self.assert_fault("name", "proc p(@z: word) { } " + other + " main() { }")
        self.assert_fault("name", "proc p(@p: word) { } main() { }")

    def test_locals(self):
        for other in ("table z 1 { f: word }", "var z: word;", "var z[2]: word;", "proc z() { }"):
            self.assert_fault("name", other + " main() { let @z = 1; }")
            self.assert_fault("name", "proc p() { if 1 { let @z = 1; } } " + other + " main() { }")
        self.assert_fault("name", "proc p() { let @p = 1; } main() { }")
        self.assert_fault("name", "main(k: word) { let @k = 1; }")
        self.assert_fault("name", "main(k: word) { if 1 { while 1 max 1 { let @k = 1; } } }")
        self.assert_fault("name", "main() { let k = 1; let @k = 2; }")
        for head in ("if 1", "while 1 max 1", "atomic"):
            self.assert_fault("name", "main() { let k = 1; " + head + " { let @k = 2; } }")
            self.assert_fine("main() { " + head + " { let k = 2; } let k = 1; }")
            self.assert_fine(
                "main() { " + head + " { let k = 2; } " + head + " { let k = 1; } let k = 3; }"
            )
        self.assert_fault("name", "main() { let k = 1; if 1 { } else { let @k = 2; } }")
        self.assert_fine("main() { if 1 { let k = 1; } else { let k = 2; } let k = 3; }")
        self.assert_fault("name", "main() { if 1 { if 1 { let k = 1; } let k = 1; let @k = 2; } }")
        self.assert_fine("proc p() { let k = 1; } proc q() { let k = 1; } main() { let k = 1; }")
        self.assert_fine("proc p(k: word) { } main() { let k = 1; }")

    def test_used_names(self):
        self.assert_fault("name", "main() { out @z; }")
        self.assert_fault("name", "main() { out 1 + @z * 2; }")
        self.assert_fault("name", "main() { @z = 1; }")
        self.assert_fault("name", "main() { @z[0] = 1; }")
        self.assert_fault("name", "main() { @z.a.b = 1; }")
        self.assert_fault("name", "main() { out @z[0].b; }")
        self.assert_fault("name", "main() { let k = new @z; }")
        self.assert_fault("name", "var v: word; main() { v = @z; }")
        self.assert_fault("name", "main() { @z(); }")
        self.assert_fault("name", "proc p(k: word) { } main() { p(@z); }")
        self.assert_fault("name", "main() { if @z { } }")
        self.assert_fault("name", "main() { while @z max 1 { } }")
        self.assert_fault("name", "var v: @z; main() { }")
        self.assert_fault("name", "var v[2]: @z; main() { }")
        self.assert_fault("name", "table t 1 { f: @z } main() { }")
        self.assert_fault("name", "proc p(k: @z) { } main() { }")
        self.assert_fault("name", "main(k: @z) { }")

    def test_used_ahead_of_the_declaration(self):
        self.assert_fine(
            "proc p() { x = 1; a[0] = 2; n = new t; n.g = n; q(n); } var n: t; var x: word;"
            " var a[1]: word; table s 1 { f: t } table t 1 { g: t } proc q(k: t) { } main() { p(); }"
        )

    def test_locals_are_used_behind_their_let(self):
        self.assert_fine("main() { let k = 1; let l = k; out l + k; }")
        self.assert_fault("name", "main() { let k = @k; }")
        self.assert_fault("name", "main() { let k = 1 + @k; }")
        self.assert_fault("name", "main() { out @k; let k = 1; }")
        self.assert_fault("name", "main() { @k = 1; let k = 1; }")
        self.assert_fault("name", "main() { if 1 { out @k; } let k = 1; }")
        self.assert_fault("name", "main() { while 1 max 2 { out @k; let k = 1; } }")
        self.assert_fault("name", "main() { while @k max 2 { let k = 1; } }")
        self.assert_fault("name", "proc p() { let k = 1; } main() { out @k; }")
        self.assert_fault("name", "proc p(k: word) { } main() { out @k; }")
        self.assert_fault("name", "proc q(k: word) { p(); } proc p() { out @k; } main() { }")

    def test_locals_are_used_to_the_end_of_their_block(self):
        for head in ("if 1", "while 1 max 1", "atomic"):
            self.assert_fine("main() { let k = 1; " + head + " { k = 2; if k { k = 3; } } k = 4; }")
            self.assert_fine("main() { " + head + " { let k = 1; if k { k = 2; } k = 3; } }")
            self.assert_fault("name", "main() { " + head + " { let k = 1; } @k = 2; }")
            self.assert_fault("name", "main() { " + head + " { if 1 { let k = 1; } @k = 2; } }")
        self.assert_fault("name", "main() { if 1 { let k = 1; } else { @k = 2; } }")
        self.assert_fault("name", "main() { if 1 { } else { let k = 1; } @k = 2; }")

    def test_parameters_are_used_in_the_whole_procedure(self):
        self.assert_fine("proc p(k: word) { k = 1; if k { while k max 1 { k = k - 1; } } } main() { }")
        # A parameter can be used among the parameters as well, but it is no table.
        self.assert_fault("kind", "proc p(k: word, l: @k) { } main() { }")
        self.assert_fault("kind", "proc p(l: @k, k: word) { } main() { }")
        self.assert_fault("kind", "proc p(k: @k) { } main() { }")

    def test_a_field_is_not_looked_up_as_a_name(self):
        self.assert_fault("kind", "table t 1 { f: word } var v: t; main() { out v.@g; }")
        self.assert_fault("kind", "table t 1 { f: word } var v: t; main(g: word) { out v.@g; }")
        self.assert_fault("name", "table t 1 { f: word } main() { out @f; }")


class SizeTest(TextCase):
    def test_tables_and_arrays(self):
        for text in ("table t %s { f: word } main() { }", "var a[%s]: word; main() { }"):
            for size in ("1", "2", "15", "16"):
                self.assert_fine(text % size)
            for size in ("0", "17", "18", "100", "999999999999999999"):
                self.assert_fault("size", text % ("@" + size))

    def test_rounds(self):
        for most in ("0", "1", "999", "1000"):
            self.assert_fine("main() { while 1 max " + most + " { } }")
        for most in ("1001", "10000", "999999999999999999"):
            self.assert_fault("size", "main() { while 1 max @" + most + " { } }")

    def test_fields(self):
        fields = ["f%s: word" % k for k in range(6)]
        self.assert_fine("table t 1 { " + ", ".join(fields) + " } main() { }")
        self.assert_fault("size", "table t 1 { " + ", ".join(fields) + ", @g: word } main() { }")
        self.assert_fault(
            "size", "table t 1 { " + ", ".join(fields) + ", @g: word, h: word } main() { }"
        )

    def test_parameters(self):
        names = ["f%s: word" % k for k in range(6)]
        for head in ("proc p(%s) { } main() { }", "main(%s) { }"):
            self.assert_fine(head % ", ".join(names))
            self.assert_fault("size", head % (", ".join(names) + ", @g: word"))
            self.assert_fault("size", head % (", ".join(names) + ", @g: word, h: word"))

    def test_numbers_elsewhere_have_no_bounds(self):
        self.assert_fine("var a[2]: word; main() { out a[999999999999999999] - 17; a[1001] = 0; }")

    def test_a_faulty_size_makes_no_other_fault(self):
        self.assert_fault("size", "var a[@17]: word; main() { a[0] = a[16]; }")
        self.assert_fine(inside("let k = new node; k = k.next;"))


class PlaceTest(TextCase):
    """What a name stands for."""

    def test_arrays_without_an_index(self):
        for rows in (
            "out @a;", "x = @a;", "@a = 1;", "if @a { }", "p(@a, n);", "out 1 + @a;", "let k = @a;",
            "@c = n;", "@c.next = n;", "n = @c;", "out @c.value;", "out @c == n;", "out -@a;",
        ):
            self.assert_fault("kind", inside(rows))

    def test_something_else_with_an_index(self):
        for name in ("x", "n", "node", "p", "i", "k"):
            for rows in ("out @%s[0];", "@%s[0] = 1;", "@%s[0].next = n;", "out @%s[0].value;"):
                self.assert_fault("kind", inside("let k = 1; " + rows % name))

    def test_tables_and_procedures_as_places(self):
        for name in ("node", "p"):
            for rows in (
                "out @%s;", "@%s = 1;", "@%s.next = n;", "out @%s.value;", "n = @%s;", "let k = @%s;",
            ):
                self.assert_fault("kind", inside(rows % name))

    def test_no_table_where_one_is_wanted(self):
        for name in ("x", "n", "a", "c", "p", "i", "k"):
            self.assert_fault("kind", inside("let k = 1; n = new @" + name + ";"))
            self.assert_fault("kind", inside("let k = 1; let l = new @" + name + ";"))
        for name in ("x", "n", "a", "p"):
            self.assert_fault("kind", TABLES + VARS + "var v: @" + name + "; proc p() { } main() { }")
            self.assert_fault("kind", TABLES + VARS + "var v[2]: @" + name + "; proc p() { } main() { }")
            self.assert_fault("kind", TABLES + VARS + "table s 1 { f: @" + name + " } proc p() { } main() { }")
            self.assert_fault("kind", TABLES + VARS + "proc q(k: @" + name + ") { } proc p() { } main() { }")
        self.assert_fault("kind", "proc p(k: @p) { } main() { }")

    def test_no_procedure_where_one_is_called(self):
        for name in ("x", "n", "a", "node", "i", "k"):
            self.assert_fault("kind", inside("let k = 1; @" + name + "();"))
            self.assert_fault("kind", inside("let k = 1; @" + name + "(1, 2);"))

    def test_fields(self):
        self.assert_fine(inside("out n.value; out n.next.next.value; out c[0].next.value; n.next = n;"))
        self.assert_fine(inside("let k = new t; k.a.a.b = r.b; c[1].value = 2; k.a = k;"))
        for rows in (
            "out x.@value;", "out n.@b;", "out n.value.@next;", "out n.next.@b;", "out a[0].@value;",
            "out c[0].@b;", "out r.@next;", "n.@b = 1;", "n.next.value.@value = 1;", "x.@value = 1;",
            "let k = 1; k.@next = n;", "let k = new t; k.@next = n;", "out i.@value;", "c[1].@a = r;",
            "out n.@node;", "out n.@x;", "n.@next2 = n;",
        ):
            self.assert_fault("kind", inside(rows))
        self.assert_fine("table s 1 { f: word } proc p(k: s) { out k.f; } main() { }")
        self.assert_fault("kind", "table s 1 { f: word } proc p(k: s) { out k.@g; } main() { }")

    def test_kinds_of_main(self):
        self.assert_fine("main(k: word, l: word) { }")
        self.assert_fault("kind", "table t 1 { f: word } main(k: @t) { }")
        self.assert_fault("kind", "table t 1 { f: word } main(k: word, l: @t, m: t) { }")
        self.assert_fine("table t 1 { f: word } proc p(k: t) { } main() { }")


class OperandsTest(TextCase):
    """The kinds of operands; `x` is a word, `n` and `m` are nodes, `r` is a t."""

    WORDS = ("1", "x", "a[0]", "n.value", "(x)", "i", "-x", "not x", "x + 1", "n == m", "(n == none)")
    OTHERS = ("none", "n", "c[1]", "n.next", "(none)", "((n))", "r", "r.a", "(n.next)")

    def test_words_where_words_are_wanted(self):
        for value in self.WORDS:
            for rows in (
                "out %s;", "if %s { }", "while %s max 1 { }", "x = %s;", "out a[%s];", "a[%s] = 1;",
                "c[%s].next = n;", "p(%s, n);", "n.value = %s;", "a[0] = %s;", "let k = %s; x = k;",
                "i = %s;",
            ):
                self.assert_fine(inside(rows % value))

    def test_others_where_words_are_wanted(self):
        for value in self.OTHERS:
            for rows in (
                "out @%s;", "if @%s { }", "while @%s max 1 { }", "x = @%s;", "out a[@%s];",
                "a[@%s] = 1;", "c[@%s].next = n;", "p(@%s, n);", "n.value = @%s;", "a[0] = @%s;",
                "let k = x; k = @%s;", "i = @%s;", "out c[@%s].value;",
            ):
                self.assert_fault("kind", inside(rows % value))

    def test_operators_on_words(self):
        for sign in "or and < <= > >= + - * / mod".split():
            for value in self.WORDS[:6]:
                self.assert_fine(inside(f"out {value} {sign} {value};"))
            for value in self.OTHERS:
                self.assert_fault("kind", inside(f"out @{value} {sign} 1;"))
                self.assert_fault("kind", inside(f"out 1 {sign} @{value};"))
                self.assert_fault("kind", inside(f"out @{value} {sign} {value};"))
                self.assert_fault("kind", inside(f"out (1 {sign} @({value}));"))
        for sign in ("-", "not "):
            for value in self.OTHERS:
                self.assert_fault("kind", inside(f"out {sign}@{value};"))
                self.assert_fault("kind", inside(f"out {sign}{sign}@{value};"))

    def test_what_operators_give_are_words(self):
        for value in ("1 + 2", "-1", "not 1", "1 == 1", "n == m", "none == none", "1 < 2", "1 or 2"):
            self.assert_fine(inside(f"x = {value};"))
            self.assert_fine(inside(f"out ({value}) + 1;"))
            self.assert_fault("kind", inside(f"n = @{value};"))
            self.assert_fault("kind", inside(f"n = @({value});"))
            self.assert_fault("kind", inside(f"out ({value}) == @n;"))
            self.assert_fault("kind", inside(f"out n == @({value});"))

    def test_equality(self):
        words = ("1", "x", "(x)", "a[0]", "n.value", "i")
        nodes = ("n", "m", "c[1]", "n.next", "(n)")
        others = ("r", "r.a", "((r.a))")
        nothing = ("none", "(none)")
        for sign in ("==", "!="):
            for left in (*words, *nodes, *others, *nothing):
                for right in (*words, *nodes, *others, *nothing):
                    both = [left, right]
                    fine = (
                        all(one in words for one in both)
                        or all(one in nodes or one in nothing for one in both)
                        or all(one in others or one in nothing for one in both)
                    )
                    if fine:
                        self.assert_fine(inside(f"out {left} {sign} {right};"))
                    else:
                        self.assert_fault("kind", inside(f"out {left} {sign} @{right};"))

    def test_stored_values(self):
        for place in ("n", "n.next", "c[0]", "m.next.next", "l"):
            for value in ("n", "none", "(none)", "c[1]", "(n.next)", "new node", "((none))", "l"):
                self.assert_fine(inside(f"let l = n; {place} = {value};"))
            for value in ("1", "x", "r", "(r)", "new t", "n.value", "1 + 1", "n == n", "-1"):
                self.assert_fault("kind", inside(f"let l = n; {place} = @{value};"))
        for place in ("x", "a[0]", "n.value", "i"):
            for value in ("n", "none", "(none)", "new node", "r"):
                self.assert_fault("kind", inside(f"{place} = @{value};"))
        self.assert_fault("kind", inside("r = @new node;"))
        self.assert_fine(inside("r = new t; r.a = none; r.a = new t;"))

    def test_parameters_and_locals_have_kinds(self):
        self.assert_fine(TABLES + "proc p(k: node, l: word) { k = new node; k = none; l = k.value; } main() { }")
        self.assert_fault("kind", TABLES + "proc p(k: node) { k = @1; } main() { }")
        self.assert_fault("kind", TABLES + "proc p(k: node) { k = @new t; } main() { }")
        self.assert_fault("kind", TABLES + "proc p(k: word) { k = @none; } main() { }")
        self.assert_fault("kind", inside("let k = new node; k = @1;"))
        self.assert_fault("kind", inside("let k = n.next; k = @r;"))
        self.assert_fault("kind", inside("let k = 1; k = @n;"))
        self.assert_fault("kind", inside("if 1 { let k = n; } let k = 1; k = @n;"))
        self.assert_fine(inside("if 1 { let k = n; k = none; } let k = 1; k = 2;"))

    def test_arguments(self):
        for value in ("n", "none", "(none)", "c[1]", "n.next"):
            self.assert_fine(inside(f"p(1, {value});"))
            self.assert_fault("kind", inside(f"p(@{value}, {value});"))
        for value in ("1", "r", "(r.a)", "x + 1", "n == n"):
            self.assert_fault("kind", inside(f"p(1, @{value});"))

    def test_let_with_none(self):
        self.assert_fault("kind", inside("let k = @none;"))
        self.assert_fault("kind", inside("let k = @(none);"))
        self.assert_fault("kind", inside("let k = @((none));"))
        self.assert_fine(inside("let k = n; let l = none == none; let o = n.next; let q = (n);"))

    def test_the_first_word_of_an_expression(self):
        self.assert_fault("kind", inside("x = @((n));"))
        self.assert_fault("kind", inside("out 1 + (2 * @(n.next));"))
        self.assert_fault("kind", inside("out @(n) + 1;"))
        self.assert_fault("kind", inside("out (@n + 1);"))
        self.assert_fault("kind", inside("out (@(n) + 1);"))
        self.assert_fault("kind", inside("n = @a[1] + 2 * 3;"))
        self.assert_fault("kind", inside("n = @(1 + 2) * 3;"))
        self.assert_fault("kind", inside("n = @not n == m;"))
        self.assert_fault("kind", inside("n = @-(1);"))
        self.assert_fault("kind", inside("out x == @c[1].next;"))
        self.assert_fault("kind", inside("out n == @-1;"))
        self.assert_fault("kind", inside("n = @(n == m) == (n == m);"))


class CallTest(TextCase):
    def test_number_of_arguments(self):
        for count in range(4):
            parameters = ", ".join("k%s: word" % k for k in range(count))
            for given in range(5):
                text = "proc p(%s) { } main() { %sp(%s); }" % (
                    parameters, "" if given == count else "@", ", ".join(["1"] * given)
                )
                if given == count:
                    self.assert_fine(text)
                else:
                    self.assert_fault("call", text)

    def test_the_number_comes_ahead_of_the_arguments(self):
        self.assert_fault("call", inside("@p(none);"))
        self.assert_fault("call", inside("@p(z, z, z);"))

    def test_itself(self):
        self.assert_fault("call", "proc p() { @p(); } main() { }")
        self.assert_fault("call", "proc p() { if 1 { while 1 max 1 { @p(); } } } main() { p(); }")
        self.assert_fine("proc p() { } main() { p(); p(); p(); }")

    def test_by_others(self):
        self.assert_fault("call", "proc p() { @q(); } proc q() { p(); } main() { }")
        self.assert_fault("call", "proc p() { r(); @q(); } proc q() { p(); } proc r() { } main() { }")
        self.assert_fault(
            "call", "proc s() { p(); } proc p() { @q(); } proc q() { r(); } proc r() { p(); } main() { s(); }"
        )
        self.assert_fault(
            "call", "proc s() { p(); } proc r() { @p(); } proc q() { r(); } proc p() { q(); } main() { s(); }"
        )
        # What only leads to a circle has no fault by that.
        self.assert_fault("call", "proc a() { b(); } proc b() { @b(); } main() { a(); }")
        self.assert_fine(
            "proc a() { b(); c(); } proc b() { d(); } proc c() { d(); } proc d() { } main() { a(); d(); }"
        )

    def test_many_calls(self):
        chain = ["proc p%s() { p%s(); }" % (k, k + 1) for k in range(100)]
        self.assert_fine(" ".join(chain) + " proc p100() { } main() { p0(); }")
        self.assert_fault(
            "call",
            "proc q() { } proc p0() { q(); @p1(); } " + " ".join(chain[1:]) + " proc p100() { p0(); } main() { }",
        )
        self.assert_fault(
            "call", " ".join(chain[:50]) + " proc p50() { @p51(); } " + " ".join(chain[51:])
            + " proc p100() { p50(); } main() { }"
        )
        backwards = " ".join(reversed(chain))
        self.assert_fine("proc p100() { } " + backwards + " main() { p0(); }")
        self.assert_fault("call", "proc p100() { @p0(); } " + backwards + " main() { p0(); }")

    def test_every_call_leads(self):
        # Also one that has a fault itself.
        self.assert_fault("call", "proc p() { @q(); } proc q() { p(1); } main() { }")
        self.assert_fault("call", "proc p() { @q(1); } proc q() { p(); } main() { }")

    def test_main_is_not_called(self):
        self.assert_fine("proc p() { } main() { p(); }")


class AtomicTest(TextCase):
    def test_the_three_words(self):
        for rows in ("atomic { }", "sync;", "out 1;"):
            self.assert_fine("main() { " + rows + " }")
            self.assert_fine("main() { atomic { } " + rows + " }")
            self.assert_fine("main() { if 1 { atomic { } } else { " + rows + " } }")
            for head in ("if 1", "while 1 max 2", "if 1 { } else"):
                self.assert_fine("main() { " + head + " { " + rows + " } }")
                self.assert_fault("atomic", "main() { atomic { " + head + " { @" + rows + " } } }")
                self.assert_fault("atomic", "main() { " + head + " { atomic { @" + rows + " } } }")
                self.assert_fault("atomic", "main() { atomic { " + head + " { } @" + rows + " } }")
            self.assert_fault("atomic", "main() { atomic { @" + rows + " } }")
            self.assert_fault("atomic", "proc p() { atomic { @" + rows + " } } main() { }")

    def test_procedures(self):
        for rows in ("atomic { }", "sync;", "out 1;", "if 1 { while 1 max 1 { sync; } }"):
            has = "proc p() { " + rows + " } "
            self.assert_fine(has + "main() { p(); atomic { } p(); }")
            self.assert_fault("atomic", has + "main() { atomic { @p(); } }")
            self.assert_fault("atomic", "proc q() { atomic { if 1 { @p(); } } } " + has + "main() { }")
            leads = has + "proc q() { if 1 { p(); } } proc r() { q(); } "
            self.assert_fine(leads + "main() { r(); }")
            self.assert_fault("atomic", leads + "main() { atomic { @r(); } }")
            self.assert_fault("atomic", leads + "main() { atomic { @q(); } }")

    def test_procedures_without_these_words(self):
        self.assert_fine(
            "var x: word; proc p() { x = 1; } proc q() { p(); } proc r() { sync; }"
            " main() { atomic { p(); q(); } r(); }"
        )
        # What calls it inside of `atomic` elsewhere does not matter.
        self.assert_fine("proc p() { } proc q() { atomic { p(); } } main() { atomic { p(); } q(); }")

    def test_by_many_calls(self):
        chain = " ".join("proc p%s() { p%s(); }" % (k, k + 1) for k in range(100))
        self.assert_fault("atomic", "proc q() { atomic { @p0(); } } " + chain + " proc p100() { out 1; } main() { }")
        self.assert_fine("proc q() { atomic { p0(); } } " + chain + " proc p100() { } main() { }")


class OrderTest(TextCase):
    def test_the_first_in_the_text(self):
        self.assert_fault("size", "var a[@0]: z; main() { out none; }")
        self.assert_fault("name", "var a: @z; var b[0]: word; main() { }")
        self.assert_fault("kind", "main() { out @none; out z; }")
        self.assert_fault("name", "main() {\n out @z;\nout none; }")
        self.assert_fault("kind", "main() {\n out 1 + @none; z(); }")
        self.assert_fault("atomic", "main() { atomic { @out none; } }")
        self.assert_fault("kind", "proc p() { x = @none; } var x: word; var x: word; main() { }")
        self.assert_fault("name", "table t 1 { f: word, @f: word } table t 1 { f: word } main() { }")
        self.assert_fault("name", "main() { @y[z] = w; }")
        self.assert_fault("name", "var a[2]: word; main() { a[@z] = w; }")
        self.assert_fault("kind", "var n: word; main() { n = @none + z; }")
        self.assert_fault("size", "main() { while 1 max @1001 { out none; } }")
        self.assert_fault("kind", "main() { while @none max 1001 { } }")

    def test_declarations_stand_in_the_text_where_they_stand(self):
        self.assert_fault(
            "kind", "var x: word; proc p() { x = @new t; } table t 0 { a: word, a: word } main() { }"
        )
        self.assert_fault("call", "proc p() { @q(1); } table t 0 { a: word } proc q() { } main() { }")

    def test_several_at_one_word(self):
        # The seventh one and declared already.
        six = ", ".join("f%s: word" % k for k in range(6))
        self.assert_fault("name", "table t 1 { " + six + ", @f0: word } main() { }")
        self.assert_fault("name", "proc p(" + six + ", @f0: word) { } main() { }")
        self.assert_fault("name", "main(" + six + ", @f0: word) { }")
        # A kind of `main` that is nothing at all, or no table.
        self.assert_fault("name", "main(k: @z) { }")
        self.assert_fault("kind", "var v: word; main(k: @v) { }")
        # Arguments and `atomic`; both reasons of "call".
        self.assert_fault("call", "proc p() { sync; } main() { atomic { @p(1); } }")
        self.assert_fault("call", "proc p(k: word) { atomic { @p(); } } main() { }")
        self.assert_fault("call", "proc p() { atomic { @p(); } } main() { }")
        self.assert_fault("name", "main() { atomic { @p(); } }")
        self.assert_fault("kind", "var p: word; main() { atomic { @p(); } }")

    def test_a_name_with_a_fault_fits(self):
        for rows in (
            "n = @z;", "x = @z;", "n = @z.next;", "out @z.next.value + 1;", "out n == @z;", "p(@z, n);",
            "p(1, @z);", "let k = @z;", "@z = none;", "@z.a = n;", "@z[0] = n;", "n = @z[0];",
            "out @z + 1;", "n.next = @z;", "out a[@z];", "out -@z;", "out not @z;", "x = new @z;",
            "n = new @z;", "out none == @z;", "out @z == none;", "out 1 == @z;",
        ):
            self.assert_fault("name", inside(rows))
        for rows in (
            "n = @a;", "n = @x[0];", "x = new @x;", "x = @c;", "out @c + 1;", "@a = none;", "@node = 1;",
            "out n.@z + 1;", "n = n.@z;", "x = n.@z;", "n.@z.y = none;", "n.value.@z = n;",
            "out n.@z == none;", "out 1 == n.@z;", "n = x.@y.z.z;", "p(n.@z, n);", "p(1, n.@z);",
        ):
            self.assert_fault("kind", inside(rows))

    def test_a_local_with_a_fault_makes_no_other(self):
        self.assert_fault("name", inside("let k = @z; n = k; x = k; k.a = none; out k + 1;"))
        self.assert_fault("kind", inside("let k = @none; n = k; x = k;"))

    def test_what_has_a_kind_with_a_fault_fits(self):
        uses = (
            "v = 1; v = none; v = new t; v = n;", "x = v; n = v;", "v.a.b = 1; n = v.c; x = v.d.e;",
            "out v + v.k;", "out v == 1; out v == none; out none == v; out v == n; out n == v;",
            "let k = v; k = 1; n = k; k.a = none;", "if v { } while v max 1 { } out -v; out not v;",
            "u[0] = 1; u[1] = none; n = u[0]; x = u[1].a.b; u[v] = u[u[0]];",
            "n.g = 1; n.g = none; n = n.g; x = n.g; n.g.h.i = n.g;",
            "q(1); q(none); q(n); q(v);",
        )
        # `z` is nothing, `w` is a variable and `p` a procedure.
        for word, kind in (("name", "z"), ("kind", "w"), ("kind", "p")):
            declared = (
                f"var v: {kind}; var u[2]: {kind}; proc q(k: {kind}) {{ }}"
                f" table t 1 {{ f: word, g: {kind} }} "
            )
            # Behind the uses, so that a fault at one of these would come first.
            marked = declared.replace(kind, "@" + kind, 1)
            for rows in uses:
                self.assert_fault(
                    word,
                    "var w: word; var n: t; var x: word; proc p() { " + rows + " } " + marked + "main() { }",
                )

    def test_the_first_declaration_counts(self):
        self.assert_fault("kind", "proc p() { x = @none; } var x: word; table t 1 { f: t } var x: t; main() { }")
        self.assert_fault("name", "proc p() { x = none; } var x: t; table t 1 { f: t } var @x: word; main() { }")
        self.assert_fault("call", "proc p() { @q(); } proc q(k: word) { } proc q() { } main() { }")
        self.assert_fault("name", "proc p() { q(); } proc q() { } proc @q(k: word) { } main() { }")
        self.assert_fault("kind", "proc p(k: t) { k.@g = 1; } table t 1 { f: t } table t 1 { g: word } main() { }")
        self.assert_fault("name", "proc p(k: t) { k.f = k; } table t 1 { f: t, @f: word } main() { }")
        self.assert_fault("kind", "proc p(k: t) { k.f = @1; } table t 1 { f: t, f: word } main() { }")
        self.assert_fault("kind", "proc p() { @x(); } var x: word; proc x() { } main() { }")
        self.assert_fault("name", "proc p() { atomic { q(); } } proc q() { } proc @q() { sync; } main() { }")
        self.assert_fault("name", "proc p() { q(); } proc q() { } proc @q() { p(); } main() { }")

    def test_no_fault(self):
        self.assertIsNone(fault_of("main() { }"))
        self.assert_fine(inside(
            "let k = new node; k.next = n; n = k; k.value = i * -2 mod 3;"
            " while n != none and n.value < 10 max 1000 { atomic { n.value = n.value + 1; p(x, k); }"
            " c[n.value] = n; n = n.next; sync; out a[x] + 1; }"
        ))

    def test_places_of_the_text_that_was_read(self):
        self.assert_fault("kind", "var\nx\n:\nword\n;\nmain\n(\n)\n{\nx\n=\n   @none\n;\n}")
        self.assert_fault("kind", "var x:word;main(){x=\n\n\n@(\nnone)\n;}")


if __name__ == "__main__":
    unittest.main()
