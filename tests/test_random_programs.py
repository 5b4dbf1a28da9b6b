"""[9] to [13]: many programs, compared with a second reading of what they mean."""

import unittest

from lastheap.heaps import places
from lastheap.judging import judge
from lastheap.printer import program_text
from lastheap.reader import read_program
from lastheap.running import heaps, plain_run
from tests.random_programs import Maker, meaning
from tests.run_helpers import stop_of, told

SEEDS = 400


class RandomProgramsTest(unittest.TestCase):
    def test_runs(self):
        seen = set()
        for seed in range(SEEDS):
            maker = Maker(seed)
            program = read_program(maker.program())
            self.assertIsNone(judge(program), seed)
            self.assertEqual(places(program), maker.shape.labels, seed)
            many = len(maker.procedures[-1]["parameters"])
            for _ in range(3):
                heap = maker.shape.heap(maker.chance)
                arguments = [maker.chance.choice([0, 1, 2, -1, 5, 2 ** 60]) for _ in range(many)]
                run = plain_run(program, heap, arguments)
                self.assertEqual((told(run), stop_of(run)), meaning(maker, heap, arguments), (seed, heap, arguments))
                self.assertEqual(plain_run(program, heaps(run)[0], tuple(arguments)), run)
                seen |= {event[0] for event in told(run)} | {run.stop and run.stop.word}
        wanted = {"block", "sync", "out", None, "none", "index", "full", "rounds", "divide", "large", "steps"}
        self.assertEqual(seen, wanted)

    def test_the_fixed_form_means_the_same(self):
        for seed in range(0, SEEDS, 8):
            maker = Maker(seed)
            program = read_program(maker.program())
            printed = read_program(program_text(program))
            many = len(maker.procedures[-1]["parameters"])
            heap = maker.shape.heap(maker.chance)
            self.assertEqual(told(plain_run(program, heap, [1] * many)), told(plain_run(printed, heap, [1] * many)))


if __name__ == "__main__":
    unittest.main()
