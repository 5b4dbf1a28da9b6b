"""[10] and [11]: `new`, and which records are reachable."""

import unittest

from lastheap.heaps import places
from lastheap.reader import read_program
from tests.run_helpers import RunCase, blocks, ran, told

TABLE = "table t 2 { f: t, w: word } "


class NewTest(RunCase):
    def test_the_smallest_number_first(self):
        text = TABLE.replace("2", "4") + "var a[4]: t; main() { a[2] = new t; a[0] = new t; a[3] = new t; a[1] = new t; }"
        self.assertEqual(self.last_heap(text)[:4], (2, 4, 1, 3))

    def test_a_number_that_is_free_again(self):
        text = (
            TABLE.replace("2", "3") + "var a[3]: t; main() { a[0] = new t; a[1] = new t; a[2] = new t;"
            " a[1] = none; a[1] = new t; a[0] = none; a[2] = none; a[2] = new t; a[0] = new t; }"
        )
        self.assertEqual(self.last_heap(text)[:3], (3, 2, 1))

    def test_records_of_other_tables_do_not_count(self):
        text = (
            "table t 2 { f: u } table u 2 { g: word } var a: t; var b: u; var c: t; var d: u;"
            " main() { a = new t; b = new u; c = new t; d = new u; }"
        )
        self.assertEqual(self.last_heap(text)[:4], (1, 1, 2, 2))

    def test_fields_are_set_to_none(self):
        text = TABLE + "var r: t; main() { r = new t; }"
        run = ran(text, (), (0, 2, 5, 1, 6))
        self.assertEqual(blocks(run), [((1, 2, 0), (2, 5, 0)), ((0, 0, 1),)])
        run = ran(text, (), (0, 0, 5, 1, 6))
        self.assertEqual(blocks(run), [((2, 5, 0),), ((0, 0, 1),)])
        run = ran(text, (), (0, 0, 0, 1, 6))
        self.assertEqual(blocks(run), [((0, 0, 1),)])
        run = ran(text, (), (1, 2, 5, 0, 6))
        self.assertIsNotNone(run.stop)

    def test_full(self):
        for size in (1, 2, 16):
            before = f"table t {size} {{ f: word }} var a[16]: t; main() {{ let i = 0; while i < {size} max 16"
            text = before + " { a[i] = new t; i = i + 1; } let r = new @t; a[0] = none; }"
            run = self.assert_stop("full", text)
            self.assertEqual(blocks(run), [((i, 0, i + 1),) for i in range(size)])
        self.assert_stop("full", TABLE + "var a: t; var b: t; var c: t; main() { a = new t; b = new t; c = new @t; }")

    def test_nothing_is_done_when_it_is_full(self):
        run = self.assert_stop("full", TABLE + "var r: t; var s: t; main() { s = r.f; r = new @t; }", (),
                               (1, 0, 2, 7, 0, 8))
        self.assertEqual(blocks(run), [((1, 0, 2),)])


class ReachableTest(RunCase):
    """After the rows, `new` gives the expected record of two, or stops."""

    def assert_new(self, expected, rows, before="", heap=None):
        text = TABLE + before + " main() { " + rows + " let z = new t; z.w = 99; }"
        if expected is None:
            self.assert_stop("full", text.replace("let z = new t", "let z = new @t"), (), heap)
            return
        run = ran(text, (), heap)
        self.assertIsNone(run.stop)
        names = places(read_program(text))
        self.assertEqual(names[run.events[-1].changes[0][0]], ("t", expected - 1, "w"), rows)

    def test_variables(self):
        self.assert_new(1, "", "var r: t;")
        self.assert_new(2, "r = new t;", "var r: t;")
        self.assert_new(1, "r = new t; r = none;", "var r: t;")
        self.assert_new(None, "r = new t; s = new t;", "var r: t; var s: t;")
        self.assert_new(1, "r = new t; s = new t; r = s;", "var r: t; var s: t;")

    def test_elements(self):
        self.assert_new(2, "a[1] = new t;", "var a[2]: t;")
        self.assert_new(1, "a[1] = new t; a[1] = a[0];", "var a[2]: t;")
        self.assert_new(None, "a[1] = new t; a[0] = new t;", "var a[2]: t;")

    def test_words_hold_nothing(self):
        self.assert_new(1, "x = 1; let y = 1;", "var x: word;")
        self.assert_new(1, "let y = 2; let r = new t; r.w = 2; r = none;")
        self.assert_new(1, "let r = new t; let y = r == r; r = none;")
        self.assert_new(1, "let r = new t; let y = r != none; let k = r.w + 1; let i = not r.w; r = none;")
        self.assert_new(1, "let r = new t; r.w = 1; let y = r.w; let k = -y; a[1] = 1; let i = a[y]; r = none;",
                        "var a[2]: word;")

    def test_fields(self):
        self.assert_new(None, "r = new t; r.f = new t;", "var r: t;")
        self.assert_new(2, "r = new t; r.f = new t; r.f = none;", "var r: t;")
        self.assert_new(2, "r = new t; r.f = new t; r.f = r;", "var r: t;")
        self.assert_new(1, "r = new t; r.f = new t; r = r.f;", "var r: t;")
        self.assert_new(1, "r = new t; r.f = new t; r = none;", "var r: t;")

    def test_locals(self):
        self.assert_new(2, "let r = new t;")
        self.assert_new(None, "let r = new t; let s = new t;")
        self.assert_new(1, "let r = new t; let s = new t; r = s;")
        self.assert_new(1, "let r = new t; r = none;")
        self.assert_new(None, "let r = new t; r.f = new t;")

    def test_blocks_that_are_closed(self):
        for head in ("if 1", "if 0 { } else", "atomic", "while x < 1 max 1"):
            rows = head + " { x = 1; let r = new t; }"
            self.assert_new(1, "let x = 0; " + rows)
            self.assert_new(2, "let x = 0; let p = new t; " + rows)
        self.assert_new(None, "let p = new t; if 1 { let q = new t; p.f = q; }")

    def test_inside_of_blocks(self):
        text = TABLE + "main() { let a = new t; if 1 { let b = new t; if 1 { let c = new @t; } } }"
        self.assert_stop("full", text)
        text = TABLE + "main() { let a = new t; if 1 { if 1 { let b = new t; } let c = new t; out c == a; } }"
        self.assert_outs([0], text)

    def test_rounds(self):
        text = TABLE + "var x: word; main() { while x < 9 max 9 { let a = new t; let b = new t; x = x + 1; } out x; }"
        self.assert_outs([9], text)
        text = TABLE + "var r: t; var x: word; main() { while x < 9 max 9 { let a = new @t; a.f = r; r = a; x = x + 1; } }"
        self.assert_stop("full", text)

    def test_a_local_is_held_only_behind_its_let(self):
        # In a second round the local of the first one is no more, even before its `let`.
        text = TABLE + "main() { let i = 0; let k = new t; while i < 3 max 3 { let a = new t; i = i + 1; } out i; }"
        self.assert_outs([3], text)

    def test_rings(self):
        self.assert_new(1, "let r = new t; let s = new t; r.f = s; s.f = r; r = none; s = none;")
        self.assert_new(None, "let r = new t; let s = new t; r.f = s; s.f = r; r = none;")
        self.assert_new(1, "let r = new t; r.f = r; r = none;")
        self.assert_new(2, "r = new t; r.f = r;", "var r: t;")
        self.assert_new(1, "", "var r: t;", (0, 2, 0, 1, 0))

    def test_chains_through_tables(self):
        text = (
            "table a 2 { f: b } table b 2 { f: c } table c 2 { f: a, w: word } var r: a; main() {"
            " r = new a; r.f = new b; r.f.f = new c; r.f.f.f = new a; r.f.f.f.f = new b; r.f.f.f.f.f = new c;"
            " out r.f.f.f.f.f.w; r.f.f = none; let p = new c; let q = new c; let s = new a; let u = new b; r = none;"
            " let v = new a; let z = new @a; }"
        )
        self.assert_stop("full", text)

    def test_a_place_stays_when_its_record_is_named_anew(self):
        # The record of the place is held by r all the while.
        self.assert_blocks([((0, 0, 1),), ((1, 0, 2),)], TABLE + "var r: t; main() { r = new t; r.f = new t; }")


class ProceduresTest(RunCase):
    def test_parameters(self):
        before = TABLE + "proc p(r: t) { let s = new t; out s == r; "
        self.assert_outs([0], before + "} main() { p(new_one); }".replace("p(new_one)", "let r = new t; p(r)"))
        self.assert_stop("full", before + "let u = new @t; } main() { let r = new t; p(r); }")
        self.assert_outs([0, 1], before + "r = none; let u = new t; out u.w == 0; } main() { p(none); }")

    def test_a_parameter_is_held_to_the_end(self):
        text = (
            TABLE + "var r: t; proc p(a: t) { r = none; if 1 { let s = new t; out s == a; } a = none;"
            " if 1 { let u = new t; let v = new t; out 5; } } main() { r = new t; p(r); }"
        )
        self.assert_outs([0, 5], text)

    def test_locals_of_the_one_that_called(self):
        text = TABLE + "proc p() { let s = new @t; } main() { let a = new t; let b = new t; p(); }"
        self.assert_stop("full", text)
        self.assert_outs([1], text.replace("@", "").replace("p(); }", "b = none; p(); out 1; }"))
        self.assert_stop("full", TABLE + "proc p() { let s = new @t; } proc q(a: t) { p(); } main() {"
                         " let a = new t; let b = new t; a = none; q(b); p(); let c = new t; p(); }")

    def test_parameters_of_those_that_wait(self):
        text = (
            TABLE + "var r: t; proc p(a: t) { r = none; q(); } proc q() { u(); } proc u() { let s = new t;"
            " s.w = 5; let v = new @t; } main() { r = new t; p(r); }"
        )
        run = self.assert_stop("full", text)
        self.assertEqual(blocks(run), [((0, 0, 1),), ((0, 1, 0),), ((4, 0, 5),)])

    def test_locals_behind_the_call(self):
        text = (
            TABLE + "proc p() { let s = new t; let u = new t; s = u; out 1; } main() { if 1 { let a = new t; } p();"
            " let b = new t; let c = new t; b = c; out 2; }"
        )
        self.assert_outs([1, 2], text)

    def test_a_block_that_is_closed_before_the_call(self):
        text = (
            TABLE + "proc p() { let s = new t; s.w = 3; let u = new t; } main() { let i = 0; while i < 2 max 2 {"
            " p(); let a = new t; let b = new t; i = i + 1; } out i; }"
        )
        self.assert_outs([2], text)

    def test_let_go_at_the_end_of_a_procedure(self):
        text = TABLE + "proc p() { let s = new t; let u = new t; } main() { p(); p(); p(); out 1; }"
        self.assert_outs([1], text)

    def test_a_word_with_the_name_of_a_reference(self):
        text = (
            TABLE + "proc p() { if 1 { let a = new t; } if 1 { let a = 2; let b = new t; let c = new t; out 1; } }"
            " main() { p(); }"
        )
        self.assert_outs([1], text)

    def test_each_call_has_its_own(self):
        text = (
            TABLE + "var x: word; proc p(a: t) { a.w = 1; q(a.f); a.w = a.w + 1; } proc q(a: t) { a.w = 10;"
            " a = none; } main() { let a = new t; a.f = new t; p(a); out a.w; out a.f.w; }"
        )
        self.assert_outs([2, 10], text)


class EventsOfNewTest(RunCase):
    def test_two_blocks(self):
        heap = (0, 0, 4, 0, 0)
        text = TABLE + "var x: t; main() { x = new t; }"
        self.assertEqual(told(ran(text, (), heap)), [("block", ((2, 4, 0),)), ("block", ((0, 0, 1),))])

    def test_let_is_one_block(self):
        text = TABLE + "main() { let x = new t; }"
        self.assert_blocks([((0, 2, 0), (1, 4, 0))], text, (), (2, 4, 0, 0))

    def test_a_local_is_no_block(self):
        text = TABLE + "main() { let x = new t; x = new t; }"
        self.assert_blocks([((1, 4, 0),), ((2, 1, 0), (3, 5, 0))], text, (), (0, 4, 1, 5))

    def test_a_field(self):
        text = TABLE + "var r: t; main() { r.f = new t; }"
        self.assert_blocks([((4, 9, 0),), ((1, 0, 2),)], text, (), (1, 0, 7, 0, 9))

    def test_the_record_itself(self):
        text = TABLE + "var r: t; main() { r = new t; }"
        self.assert_blocks([((3, 2, 0),), ((0, 1, 2),)], text, (), (1, 0, 0, 2, 0))

    def test_in_atomic(self):
        text = TABLE + "var x: t; main() { atomic { x = new t; x.w = 8; } }"
        self.assert_blocks([((0, 0, 1), (2, 4, 8))], text, (), (0, 0, 4, 0, 0))


if __name__ == "__main__":
    unittest.main()
