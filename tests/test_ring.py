"""[16] and [19]: the pairs of log lines, and blank contents."""

import unittest

from lastheap.errors import BadCount
from lastheap.lines import Layout
from lastheap.ring import blank, log_pairs

NO_SLOTS = (0, 10, -1, 11, 10 ** 20, -(10 ** 20), True, False, None, "2", 2.0, (2,))


class LogPairsTest(unittest.TestCase):
    def test_each_width(self):
        for width in (4, 6, 8, 10, 12):
            room = width // 2 - 1
            for many in (0, 1, room - 1, room, room + 1, 2 * room, 2 * room + 1, 120):
                changes = [(place, -place, place * place + 1) for place in range(3, 3 + many)]
                pairs = [(place, new) for place, _, new in changes]
                expected = []
                while pairs:
                    expected.append(pairs[:room])
                    pairs = pairs[room:]
                self.assertEqual(log_pairs(changes, width), expected)
                self.assertEqual(log_pairs(tuple(changes), width), expected)
                self.assertEqual(log_pairs([list(change) for change in changes], width), expected)
                self.assertEqual(len(log_pairs(changes, width)), -(-many // room))

    def test_no_changes(self):
        self.assertEqual(log_pairs([], 4), [])
        self.assertEqual(log_pairs((), 12), [])

    def test_kinds_of_what_is_returned(self):
        found = log_pairs(changes=[[0, 1, 2], [1, 1, 3], [2, 0, 4]], width=6)
        self.assertEqual(found, [[(0, 2), (1, 3)], [(2, 4)]])
        self.assertIs(type(found), list)
        self.assertEqual([type(line) for line in found], [list, list])
        self.assertEqual([type(pair) for line in found for pair in line], [tuple] * 3)

    def test_nothing_changes(self):
        changes = [[0, 1, 2]]
        log_pairs(changes, 4)[0].append(3)
        self.assertEqual(changes, [[0, 1, 2]])
        self.assertEqual(log_pairs(changes, 4), [[(0, 2)]])


class BlankTest(unittest.TestCase):
    def test_zeros(self):
        layout = Layout(4, [[0], [1, 2]])
        for slots in (1, 2, 9):
            self.assertEqual(blank(layout, slots), ((0, 0, 0, 0),) * (2 + slots))
        self.assertEqual(blank(Layout(12, []), 1), ((0,) * 12,))
        self.assertEqual(blank(slots=1, layout=layout), blank(layout, 1))

    def test_kinds_of_what_is_returned(self):
        contents = blank(Layout(6, [[0]]), 3)
        self.assertIs(type(contents), tuple)
        self.assertEqual([type(line) for line in contents], [tuple] * 4)

    def test_wrong_slots(self):
        for slots in NO_SLOTS:
            with self.assertRaises(BadCount) as caught:
                blank(Layout(4, [[0]]), slots)
            self.assertEqual((caught.exception.what, caught.exception.count), ("slots", slots))
            self.assertIs(caught.exception.count, slots)


if __name__ == "__main__":
    unittest.main()
