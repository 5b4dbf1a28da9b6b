"""[8] and [34]: programs with a fault, beside other arguments that would be refused, too."""

import unittest

from lastheap.desk import Desk
from lastheap.editions import led_over
from lastheap.errors import Faulty
from lastheap.heaps import empty_heap, places
from lastheap.judging import Fault, judge
from lastheap.lasttexts import block_text, heap_text
from lastheap.lines import Layout, packed, spread
from lastheap.printer import program_text
from lastheap.reader import read_program
from lastheap.running import Block, plain_run
from lastheap.session import Session

FINE = read_program("var x: word; main() {}")
LAYOUT = Layout(4, [[0]])
FAULTS = (
    ("var x: word; main() { y = 1; }", Fault("name", 1, 23)),
    ("var a[17]: word; main(n: word) {}", Fault("size", 1, 7)),
    ("var x: word; main() { x = none; }", Fault("kind", 1, 27)),
    ("proc p() {} main() { p(1); }", Fault("call", 1, 22)),
    ("main() { atomic { sync; } }", Fault("atomic", 1, 19)),
    ("table t 2000 { f: t } var a[900]: t; main() {}", Fault("size", 1, 9)),
    ("var x: word;\nvar x: word;\nmain() { out z; }", Fault("name", 2, 5)),
)
# Each takes a program; the other arguments are fine, or would be refused, too.
CALLS = {
    "places": lambda program: places(program),
    "empty_heap": lambda program: empty_heap(program),
    "plain_run": lambda program: plain_run(program, (0,), []),
    "plain_run, wrong heap": lambda program: plain_run(program, (True, None), []),
    "plain_run, wrong arguments": lambda program: plain_run(program, (0,), [None, 2 ** 61]),
    "packed": lambda program: packed(program, 4),
    "packed, wrong width": lambda program: packed(program, 5),
    "packed, no number": lambda program: packed(program, None),
    "spread": lambda program: spread(program, 4),
    "spread, wrong width": lambda program: spread(program, True),
    "led_over, old": lambda program: led_over(program, FINE, (0,)),
    "led_over, old and a wrong heap": lambda program: led_over(program, FINE, (True,)),
    "led_over, new": lambda program: led_over(FINE, program, (0,)),
    "led_over, new and a wrong heap": lambda program: led_over(FINE, program, ()),
    "Session": lambda program: Session(program, LAYOUT, 2),
    "Session, wrong layout": lambda program: Session(program, Layout(4, []), 2),
    "Session, wrong slots": lambda program: Session(program, LAYOUT, 0),
    "Session, all wrong": lambda program: Session(program, Layout(4, [range(4)]), None),
    "Desk": lambda program: Desk(program, LAYOUT, 2),
    "Desk, all wrong": lambda program: Desk(program, Layout(4, [range(4)]), 10),
    "block_text": lambda program: block_text(program, Block([(0, 1, 2)])),
    "block_text, no changes": lambda program: block_text(program, Block([])),
    "heap_text": lambda program: heap_text(program, (0,)),
    "heap_text, wrong heap": lambda program: heap_text(program, (0, None)),
}


class FaultyTest(unittest.TestCase):
    def test_every_function(self):
        for text, fault in FAULTS:
            program = read_program(text)
            self.assertEqual(judge(program), fault)
            for name, call in CALLS.items():
                with self.assertRaises(Faulty, msg=name) as caught:
                    call(program)
                self.assertEqual(caught.exception.fault, fault, name)
                self.assertEqual(caught.exception.told(), "refused faulty")

    def test_judging_and_printing_go_on(self):
        for text, fault in FAULTS:
            program = read_program(text)
            self.assertEqual(judge(program), fault)
            self.assertEqual(judge(read_program(program_text(program))).word, fault.word)

    def test_the_first_program_comes_first(self):
        for old, first in FAULTS:
            for new, second in FAULTS:
                with self.assertRaises(Faulty) as caught:
                    led_over(read_program(old), read_program(new), (None,))
                self.assertEqual(caught.exception.fault, first)


if __name__ == "__main__":
    unittest.main()
