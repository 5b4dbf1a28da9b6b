"""The examples of the document, as far as the package has come."""

import unittest

from lastheap.errors import Malformed
from lastheap.heaps import places
from lastheap.judging import judge
from lastheap.printer import program_text
from lastheap.reader import read_program
from lastheap.ring import log_pairs
from lastheap.running import heaps, plain_run


class TextsTest(unittest.TestCase):
    def test_program_text(self):
        self.assertEqual(program_text(read_program("main(){}")), "main() {\n}")

    def test_malformed(self):
        with self.assertRaises(Malformed) as caught:
            read_program("main( {}")
        self.assertEqual((caught.exception.line, caught.exception.column), (1, 7))

    def test_judge(self):
        fault = judge(read_program("var x: word; main() { x = none; }"))
        self.assertEqual((fault.word, fault.line, fault.column), ("kind", 1, 27))


class RunsTest(unittest.TestCase):
    def test_places(self):
        found = places(read_program("var a[2]: word; table node 1 { next: node } main() {}"))
        self.assertEqual(found, [("a", 0), ("a", 1), ("node", 0, "next")])

    def test_stores(self):
        program = read_program("var x: word; main(n: word) { x = n; x = n + 1; out x; }")
        self.assertEqual(heaps(plain_run(program, (0,), [5])), [(0,), (5,), (6,)])

    def test_atomic(self):
        program = read_program("var x: word; var y: word; main() { atomic { x = 1; y = 2; } }")
        self.assertEqual(heaps(plain_run(program, (0, 0), [])), [(0, 0), (1, 2)])

    def test_stop(self):
        program = read_program("var x: word; main() { x = 1; out 1 / 0; }")
        stop = plain_run(program, (0,), []).stop
        self.assertEqual((stop.word, stop.line, stop.column), ("divide", 1, 36))

    def test_new(self):
        program = read_program(
            "table node 2 { next: node, value: word } var head: node;"
            " main() { let n = new node; n.value = 7; n.next = head; head = n; }"
        )
        found = heaps(plain_run(program, (0, 0, 0, 0, 0), []))
        self.assertEqual(found, [(0, 0, 0, 0, 0), (0, 0, 7, 0, 0), (1, 0, 7, 0, 0)])

    def test_log_pairs(self):
        self.assertEqual(log_pairs([(0, 0, 5), (1, 0, 6)], 4), [[(0, 5)], [(1, 6)]])


if __name__ == "__main__":
    unittest.main()
