"""[2]: editions, sessions, texts and desks up to the bounds, in a few seconds each."""

import random
import time
import unittest

from lastheap.desk import Desk
from lastheap.editions import led_over
from lastheap.heaps import places
from lastheap.images import count_images, image_at
from lastheap.lasttexts import block_text, commands_text, heap_text, read_commands
from lastheap.lines import packed, spread
from lastheap.prefixes import image_with
from lastheap.reader import read_program
from lastheap.running import Block, heaps
from lastheap.session import Session

SECONDS = 20
# 120 places: sixteen words, four references and a hundred fields.
LARGE = """
table node 16 { a: word, b: word, c: word, d: node, e: node, f: word }
var row[16]: word;
var x: word;
var y: word;
var n: node;
var m: node;
"""
# A hundred blocks of one log line each.
HUNDRED = LARGE + """
main(k: word) {
    while y < 1000 max 1000 {
        if x == 20 { x = 0; y = 0; out row[3]; } else { x = x + 1; }
        if x == 20 { y = 1000; } else { y = x; row[x mod 16] = row[x mod 16] + k; row[3] = row[3] + 1; row[4] = x * k; }
    }
}
"""
# Thirteen blocks of nine log lines each, at a width of four.
WIDE = LARGE + """
proc fill(at: word, k: word) {
    atomic {
        row[at] = k; row[at + 1] = k; row[at + 2] = k; row[at + 3] = k; row[at + 4] = k;
        row[at + 5] = k; row[at + 6] = k; row[at + 7] = k; row[at + 8] = k;
    }
}
main(k: word) {
    let at = 0;
    while at < 13 max 13 { fill(at / 2, k + at); at = at + 1; }
}
"""
# As many steps as a run may have.
LONG = LARGE + """
main(k: word) {
    let at = 0;
    while at < 50 max 50 {
        let more = 0;
        while more < 40 max 40 { more = more + 1; }
        row[at mod 16] = at + k;
        at = at + 1;
    }
}
"""


class BoundsTest(unittest.TestCase):
    def setUp(self):
        self.begun = time.process_time()

    def tearDown(self):
        self.assertLess(time.process_time() - self.begun, SECONDS)

    def go(self, text, layouts, slots, runs):
        """Runs that are cut in the middle, then finished, and undone."""
        program = read_program(text)
        self.assertLessEqual(len(places(program)), 120)
        chance = random.Random(slots)
        for layout in layouts:
            session = Session(program, layout(program, 4), slots)
            for number in range(runs):
                run = session.begin([number + 1])
                trace = session.trace()
                many = count_images(trace)
                self.assertEqual(read_commands(commands_text(trace.commands)), list(trace.commands))
                image = chance.choice([
                    image_at(trace, chance.randrange(many)), image_with(trace, len(heaps(run)) // 2),
                ])
                left = session.cut(image)
                self.assertEqual(session.now(), heaps(run)[left])
                session.back()
                self.assertEqual(session.finish(), len(heaps(run)) - 1)
                self.assertEqual(session.now(), heaps(run)[-1])
                heap_text(program, session.now())
            self.assertEqual(session.many(), 2 * runs)

    def test_a_hundred_blocks(self):
        for slots in (1, 9):
            self.go(HUNDRED, (packed, spread), slots, 3)

    def test_long_blocks(self):
        self.go(WIDE, (packed, spread), 9, 3)

    def test_many_steps(self):
        self.go(LONG, (packed,), 3, 2)

    def test_a_desk(self):
        program = read_program(HUNDRED)
        desk = Desk(program, spread(program, 12), 9)
        for number in range(4):
            self.assertTrue(desk.tell(f"start {number}")[0].startswith("run "))
            for question in ("images", "prefixes", "commands", "heap", "history"):
                self.assertFalse((desk.tell(question) + [""])[0].startswith("refused"), question)
            many = int(desk.tell("images")[0])
            self.assertTrue(desk.tell(f"cut {many // 2}")[0].startswith("left "))
            self.assertEqual(desk.tell("back"), ["done"])
            self.assertTrue(desk.tell("finish")[0].startswith("left "))

    def test_many_steps_back(self):
        program = read_program("var x: word; main(n: word) { x = n; }")
        session = Session(program, packed(program, 4), 2)
        for number in range(300):
            session.begin([number])
            session.finish()
        self.assertEqual((session.many(), len(session.history())), (600, 300))
        for _ in range(600):
            session.back()
        self.assertEqual((session.now(), session.history()), ((0,), []))

    def test_leading_over(self):
        old = read_program(LARGE + "main() {}")
        lines = LARGE.strip().split("\n")
        new = read_program("\n".join(reversed(lines)) + "main() {}")
        chance = random.Random(5)
        for _ in range(20):
            heap = [chance.randint(0, 16) for _ in range(len(places(old)))]
            words = dict(zip(places(old), heap))
            found = led_over(old, new, heap)
            self.assertEqual(found, tuple(words[label] for label in places(new)))
            self.assertEqual(led_over(new, old, found), tuple(heap))
            changes = [(place, word, word + 1) for place, word in enumerate(heap)]
            self.assertEqual(block_text(old, Block(changes)).count(":"), len(heap))

    def test_long_texts(self):
        commands = read_commands(", ".join(["store 1 2 -3", "flush 4", "fence"] * 3000))
        self.assertEqual(len(commands), 9000)
        self.assertEqual(commands_text(commands).count(", "), 8999)


if __name__ == "__main__":
    unittest.main()
