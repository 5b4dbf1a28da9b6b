"""[17] and [24]: commands that keep the rules, and commands that break them."""

import random
import unittest

from lastheap.errors import BadCount, Misfit, Other, Shape, Wide
from lastheap.lines import Fence, Flush, Layout, Store
from lastheap.recovery import recover
from lastheap.ring import blank
from lastheap.rules import Broken, broken_rule
from lastheap.running import Block, Out, Run, Sync
from lastheap.runtime import translate
from tests.memory_helpers import log_line, plain, random_cut, random_layout, random_run
from tests.second_rules import WORDS, SecondRules


def told(broken):
    if broken is None:
        return None
    assert type(broken) is Broken, broken
    return (broken.rule, broken.time)


class RandomCase:
    """A run, from contents that earlier cuts left, and its trace."""

    def __init__(self, chance, slots, many, places=(1, 4), most=3, share=0.25):
        self.layout = random_layout(chance, chance.randint(*places), (4, 4, 6))
        self.slots = slots
        self.contents = blank(self.layout, slots)
        for _ in range(chance.choice([1, 2, 3])):
            room = slots * (self.layout.width // 2 - 1)
            start = recover(self.contents, self.layout, slots).heap
            self.before = self.contents
            self.run = random_run(chance, start, chance.randint(*many), min(room, most), share)
            self.trace = translate(self.run, self.layout, self.contents, slots)
            self.contents = random_cut(chance, self.trace)
        self.contents = self.before

    def second(self, commands):
        return SecondRules(self.run, self.layout, self.contents, self.slots, commands)

    def broken(self, commands):
        return told(broken_rule(self.run, self.layout, self.contents, self.slots, commands))


def lavish(chance, case):
    """Commands that keep the rules, with more fences, flushes and stores than are needed."""
    rules = case.second([])
    commands = rules.commands
    lines = len(case.layout.lines) + case.slots

    def waste():
        rules.known.clear()
        draw = chance.random()
        if draw < 0.3:
            commands.append(Flush(chance.randrange(lines)))
        elif draw < 0.4:
            commands.append(Fence())
        elif draw < 0.6 and rules.home:
            place = chance.choice(sorted(rules.home))
            for word in rules.last_word(place, len(commands)):
                commands.append(Store(*rules.home[place], word))

    def fence():
        order = list(range(lines))
        chance.shuffle(order)
        commands.extend([Flush(line) for line in order] + [Fence()])
        rules.known.clear()

    def store_all():
        for place in chance.sample(sorted(rules.home), len(rules.home)):
            for word in rules.last_word(place, len(commands)):
                commands.append(Store(*rules.home[place], word))

    recovery = rules.recovery * chance.randint(1, 2)
    chance.shuffle(recovery)
    for store in recovery:
        commands.append(store)
        waste()
    for number, (_, _, stores) in enumerate(rules.lines):
        for store in stores:
            if store is stores[0]:
                commands.append(store)
                while rules.broken_by(len(commands) - 1):
                    commands.pop()
                    fence()
                    store_all()
                    commands.append(store)
            else:
                commands.append(store)
            waste()
    fence()
    waste()
    return commands


def changed(chance, commands, layout, slots):
    """The commands with one small change."""
    commands = list(commands)
    lines = len(layout.lines) + slots
    at = chance.randrange(len(commands)) if commands else 0
    kind = chance.choice(
        ["out", "twice", "move", "swap", "line", "word", "number", "flush", "fence", "store", "end", "waiting",
         "several"]
    )
    some_line = chance.choice([-1, lines, chance.randrange(lines), chance.randrange(lines)])
    some_word = chance.choice([-1, layout.width] + [chance.randrange(layout.width)] * 3)
    if kind == "flush":
        commands.insert(chance.randint(0, len(commands)), Flush(some_line))
    elif kind == "fence":
        commands.insert(chance.randint(0, len(commands)), Fence())
    elif kind == "store":
        numbers = [command.number for command in commands if isinstance(command, Store)] + [0, 1]
        commands.insert(chance.randint(0, len(commands)), Store(some_line, some_word, chance.choice(numbers)))
    elif commands:
        command = commands[at]
        other = chance.randrange(len(commands))
        waiting = [index for index, one in enumerate(commands) if not isinstance(one, Store)]
        if kind == "out":
            del commands[at]
        elif kind == "waiting":
            for index in chance.sample(waiting, min(1, len(waiting))):
                del commands[index]
        elif kind == "several":
            # From a flush or fence up to the next store to a slot.
            for index in chance.sample(waiting, min(1, len(waiting))):
                while index < len(commands) and getattr(commands[index], "line", -1) < len(layout.lines):
                    del commands[index]
        elif kind == "twice":
            commands.insert(chance.randint(0, len(commands)), command)
        elif kind == "move":
            commands.insert(other, commands.pop(at))
        elif kind == "swap":
            commands[at], commands[other] = commands[other], commands[at]
        elif kind == "end":
            del commands[at:]
        elif isinstance(command, Flush):
            commands[at] = Flush(some_line)
        elif isinstance(command, Store):
            line, word, number = command.line, command.word, command.number
            commands[at] = {
                "line": Store(some_line, word, number),
                "word": Store(line, some_word, number),
                "number": Store(line, word, number + chance.choice([-1, 1, 2 ** 62])),
            }[kind]
    return commands


class KeptTest(unittest.TestCase):
    def test_translated_runs(self):
        reasons = set()
        for seed in range(150):
            chance = random.Random(seed)
            case = RandomCase(chance, chance.choice([1, 1, 2, 2, 3, 4, 9]), (0, 7))
            self.assertIsNone(case.broken(case.trace.commands))
            self.assertIsNone(case.broken(list(case.trace.commands)))
            reasons |= {reason for reason, _ in case.trace.reasons}
            if recover(case.contents, case.layout, case.slots).stores:
                reasons.add("recovery")
        self.assertEqual(reasons, {"line", "event", "recovery"})

    def test_more_than_is_needed(self):
        seen = 0
        for seed in range(60):
            chance = random.Random(seed)
            case = RandomCase(chance, chance.choice([1, 2, 3]), (0, 4))
            commands = lavish(chance, case)
            self.assertIsNone(case.second(commands).broken())
            self.assertIsNone(case.broken(commands))
            seen += sum(command == Fence() for command in commands) > len(case.trace.reasons) + 1
        self.assertGreater(seen, 20)

    def test_nothing_to_do(self):
        layout = Layout(4, [[0]])
        for events in ([], [Sync()], [Out(5), Sync()]):
            run = Run((0,), events, None)
            for commands in ([], (), [Fence()], [Flush(0), Flush(1), Fence(), Fence()]):
                self.assertIsNone(broken_rule(run, layout, blank(layout, 1), 1, commands))
        empty = Layout(4, [])
        self.assertIsNone(broken_rule(Run((), [Sync()], None), empty, blank(empty, 1), 1, []))


class ChangedTest(unittest.TestCase):
    def test_small_changes(self):
        seen = {}
        several = set()
        for seed in range(400):
            chance = random.Random(seed)
            case = RandomCase(chance, chance.choice([1, 1, 2, 2, 3, 5]), (0, 4), (1, 3), 2, chance.choice([0.2, 0.5]))
            if len(case.trace.commands) > 120:
                continue
            commands = case.trace.commands if chance.random() < 0.7 else lavish(chance, case)
            for _ in range(20):
                other = changed(chance, commands, case.layout, case.slots)
                if chance.random() < 0.3:
                    other = changed(chance, other, case.layout, case.slots)
                expected = case.second(other).broken()
                found = case.broken(other)
                if expected is None:
                    self.assertIsNone(found)
                    seen[None] = seen.get(None, 0) + 1
                else:
                    rules, time = expected
                    self.assertEqual(found, (rules[0], time), [plain(command) for command in other])
                    end = time == len(other)
                    seen[rules[0], end] = seen.get((rules[0], end), 0) + 1
                    several.add(tuple(rules))
        for word in WORDS:
            self.assertGreater(seen.get((word, False), 0), 5, word)
        for word in ("c", "log", "d"):
            self.assertGreater(seen.get((word, True), 0), 3, word)
        self.assertGreater(seen[None], 50)
        self.assertLessEqual({("b", "d"), ("log", "d"), ("c", "log"), ("c", "log", "d")}, several)

    def test_each_end(self):
        for seed in range(12):
            chance = random.Random(seed)
            case = RandomCase(chance, chance.choice([1, 2, 3]), (1, 3), (1, 3), 2, 0.4)
            for end in range(len(case.trace.commands) + 1):
                part = case.trace.commands[:end]
                rules, time = case.second(part).broken() or (None, None)
                self.assertEqual(case.broken(part), rules and (rules[0], time))

    def test_each_one_left_out(self):
        for seed in range(8):
            chance = random.Random(seed)
            case = RandomCase(chance, chance.choice([1, 2, 3]), (1, 3), (1, 3), 2, 0.4)
            for at in range(len(case.trace.commands)):
                part = case.trace.commands[:at] + case.trace.commands[at + 1:]
                rules, time = case.second(part).broken() or (None, None)
                self.assertEqual(case.broken(part), rules and (rules[0], time))


class WordsTest(unittest.TestCase):
    """Each word by hand: one line with the places 1 and 0, a ring of two, three blocks, a sync behind the second."""

    LAYOUT = Layout(4, [[1, 0]])
    RUN = Run((0, 0), [Block([(0, 0, 5)]), Block([(1, 0, 6)]), Sync(), Block([(0, 5, 7)]), Out(1)], None)

    def setUp(self):
        trace = translate(self.RUN, self.LAYOUT, blank(self.LAYOUT, 2), 2)
        self.commands = list(trace.commands)
        self.assertEqual(
            [plain(command) for command in self.commands[10:17]],
            [
                ("flush", 1), ("flush", 2), ("fence",), ("store", 0, 1, 5), ("store", 0, 0, 6), ("flush", 0),
                ("fence",),
            ],
        )
        self.assertEqual([plain(command) for command in self.commands[22:]], [
            ("flush", 1), ("fence",), ("store", 0, 1, 7),
        ])

    def check(self, commands, rule, time):
        found = broken_rule(self.RUN, self.LAYOUT, blank(self.LAYOUT, 2), 2, commands)
        self.assertEqual(told(found), (rule, time) if rule else None)

    def put(self, at, *commands):
        return self.commands[:at] + list(commands) + self.commands[at:]

    def without(self, *places):
        return [command for at, command in enumerate(self.commands) if at not in places]

    def test_none(self):
        self.check(self.commands, None, None)
        self.check(self.commands[:24], None, None)

    def test_line(self):
        for line in (-1, 3, 4, 10 ** 30, -(10 ** 30)):
            for at in (0, 5, 12, 24):
                self.check(self.put(at, Flush(line)), "line", at)
                self.check(self.put(at, Store(line, 0, 5)), "line", at)
        for word in (-1, 4, 5, 10 ** 30):
            for line in (0, 1, 2):
                self.check(self.put(13, Store(line, word, 5)), "line", 13)
        for line in (0, 1, 2):
            self.check(self.put(25, Flush(line)), None, None)

    def test_line_comes_first(self):
        self.check([Store(0, 4, 5)], "line", 0)
        self.check([Store(1, -1, 5)], "line", 0)
        self.check([Store(3, 0, -1)], "line", 0)
        self.check([Flush(3)], "line", 0)

    def test_log(self):
        # Another line, word, number or order; one that comes again; one more than there are.
        self.check([Store(2, 0, -1)], "log", 0)
        self.check([Store(1, 1, 1)], "log", 0)
        self.check([Store(1, 0, 1)], "log", 0)
        self.check(self.put(1, self.commands[0]), "log", 1)
        self.check(self.put(25, self.commands[0]), "log", 25)
        self.check(self.commands[:5] + self.commands[6:], "log", 5)

    def test_a(self):
        # The word of a block that is not settled; another word; an old one; another place; no place.
        self.check(self.put(5, Store(0, 1, 5)), "a", 5)
        self.check(self.put(11, Store(0, 1, 5)), "a", 11)
        self.check(self.put(12, Store(0, 1, 5)), "a", 12)
        self.check(self.put(13, Store(0, 1, 5)), None, None)
        self.check(self.put(13, Store(0, 1, 6)), "a", 13)
        self.check(self.put(13, Store(0, 0, 5)), "a", 13)
        self.check(self.put(13, Store(0, 2, 5)), "a", 13)
        self.check(self.put(13, Store(0, 3, 0)), "a", 13)
        self.check(self.put(0, Store(0, 2, 0)), "a", 0)
        # Up to the last fence 5 is the word of the last settled block, then it is 7.
        self.check(self.put(22, Store(0, 1, 5)), None, None)
        self.check(self.put(23, Store(0, 1, 7)), "a", 23)
        self.check(self.put(24, Store(0, 1, 5)), "a", 24)
        self.check(self.put(24, Store(0, 1, 7)), None, None)

    def test_a_store_of_a_word_as_it_stands(self):
        self.check(self.put(0, Store(0, 0, 0)), "a", 0)
        self.check(self.put(5, Store(0, 1, 0)), "a", 5)

    def test_b(self):
        # The data store of place 0 is missing, is not sure, or was made when nothing was settled yet.
        self.check(self.without(13), "b", 16)
        self.check(self.without(15), "b", 16)
        self.check(self.without(16), "b", 16)
        self.check(self.without(13, 14, 15, 16), "b", 13)
        # Place 1 belongs to a line that nobody begins anew.
        self.check(self.without(14), None, None)

    def test_b_before_d(self):
        # The second block is not sure, so that neither line 0 may be taken nor the sync be passed.
        self.check(self.without(10, 11, 12, 13, 14, 15, 16), "b", 10)
        # Line 0 may be taken, but the sync waits for line 1.
        self.check(self.without(11, 14), "d", 15)

    def test_d_behind_the_last_command(self):
        self.check(self.commands[:22], "d", 22)
        self.check(self.commands[:23], "d", 23)
        self.check(self.commands[:22] + [Fence()], "d", 23)

    def test_log_behind_the_last_command(self):
        for end in range(22):
            self.check(self.commands[:end], "log", end)

    def test_sure_words_only(self):
        # A flush inside of a log line makes only its first stores sure.
        commands = self.without(10)
        commands.insert(4, Flush(1))
        self.check(commands, "a", 13)


class RecoveryTest(unittest.TestCase):
    """The contents bring two stores, of the words 5 and 6 of an earlier run."""

    LAYOUT = Layout(4, [[0], [1]])
    STORES = [Store(0, 0, 5), Store(1, 0, 6)]

    def setUp(self):
        ring = [log_line(4, 0, 0, 1, (0, 5)), log_line(4, 1, 0, 1, (1, 6))]
        self.contents = [[0] * 4, [0] * 4] + ring
        self.run = Run((5, 6), [Sync(), Block([(0, 5, 8)])], None)
        trace = translate(self.run, self.LAYOUT, self.contents, 2)
        self.assertEqual(list(trace.commands[:5]), self.STORES + [Flush(0), Flush(1), Fence()])
        self.log = list(trace.commands[5:])

    def check(self, commands, rule, time, run=None):
        found = broken_rule(run or self.run, self.LAYOUT, self.contents, 2, commands)
        self.assertEqual(told(found), (rule, time) if rule else None)

    def test_any_order_and_more_than_once(self):
        one, two = self.STORES
        sure = [Flush(0), Flush(1), Fence()]
        for stores in ([two, one], [one, two, one], [two, two, one, one, two]):
            self.check(stores + sure + self.log, None, None)
        self.check([one, Flush(0), Fence(), two, Flush(1), Fence()] + self.log, None, None)
        # Once is enough, also if it comes again.
        self.check([one, two] + sure + [one, two] + self.log, None, None)

    def test_each_must_be_sure(self):
        one, two = self.STORES
        self.check(self.log, "c", 0)
        self.check([one, Flush(0), Fence()] + self.log, "c", 3)
        self.check([one, two] + self.log, "c", 2)
        self.check([one, two, Flush(0), Fence()] + self.log, "c", 4)
        self.check([one, two, Fence()] + self.log, "c", 3)
        self.check([one, two, Flush(0), Flush(1)] + self.log, "c", 4)
        self.check([one, Flush(0), Flush(1), Fence(), two] + self.log, "c", 5)
        self.check([Flush(0), Flush(1), one, two, Fence()] + self.log, "c", 5)

    def test_not_behind_the_first_log_store(self):
        one, two = self.STORES
        before = [one, two, Flush(0), Flush(1), Fence()]
        for at in (1, 3, 5):
            self.check(before + self.log[:at] + [one] + self.log[at:], "a", 5 + at)
        self.check([Store(0, 0, 6)] + before + self.log, "a", 0)
        self.check([Store(0, 1, 5)] + before + self.log, "a", 0)
        self.check([Store(1, 0, 5)] + before + self.log, "a", 0)

    def test_without_log_stores(self):
        one, two = self.STORES
        none = Run((5, 6), [Sync(), Out(3)], None)
        self.check([one, two], None, None, none)
        self.check([two, Fence(), one], None, None, none)
        self.check([two, two], "c", 2, none)
        self.check([], "c", 0, none)
        self.check([Flush(0), Fence()], "c", 2, none)
        # With a block, the log stores are missing only if the recovery's are there.
        self.check([], "c", 0)
        self.check([one], "c", 1)
        self.check([one, two], "log", 2)
        self.check([one, two, Flush(0), Flush(1), Fence()] + self.log[:1], "log", 6)

    def test_log_before_c(self):
        self.check([Store(3, 0, 5)], "log", 0)

    def test_no_events(self):
        self.check(self.STORES, None, None, Run((5, 6), [], None))
        self.check([], "c", 0, Run((5, 6), [], None))
        self.check(self.STORES + self.log[:1], "log", 2, Run((5, 6), [], None))


class SafetyTest(unittest.TestCase):
    LAYOUT = Layout(4, [[0, 1]])

    def check(self, run, slots, commands, rule, time):
        found = broken_rule(run, self.LAYOUT, blank(self.LAYOUT, slots), slots, commands)
        self.assertEqual(told(found), (rule, time) if rule else None)

    def log_of(self, run, slots):
        trace = translate(run, self.LAYOUT, blank(self.LAYOUT, slots), slots)
        stores = [command for command in trace.commands if isinstance(command, Store) and command.line > 0]
        return [stores[at:at + 5] for at in range(0, len(stores), 5)]

    def test_a_data_store_with_the_word_of_an_earlier_block(self):
        # Both blocks put 5 in the end, and the data store was made when only the first one was settled.
        run = Run((0, 0), [Block([(0, 0, 5)]), Block([(1, 0, 1)]), Block([(0, 5, 6)]), Block([(0, 6, 5)]),
                           Block([(1, 1, 2)])], None)
        one, two, three, four, five = self.log_of(run, 4)
        data = Store(0, 0, 5)
        begun = one + [Flush(1), Fence(), data] + two + three + four + [Flush(2), Flush(3), Flush(4), Flush(0), Fence()]
        # Line 0 is named again by line 2, so its slot may be taken without any data store.
        self.check(run, 4, begun + five, None, None)
        # Here the data store of line 0 is of no use for line 2, although it has the same word.
        run = Run((0, 0), [Block([(0, 0, 5)]), Block([(0, 5, 4)]), Block([(0, 4, 5)]), Block([(1, 0, 2)])], None)
        one, two, three, four = self.log_of(run, 1)
        fence = [Flush(0), Flush(1), Fence()]
        kept = (
            one + fence + [data] + fence + two + fence + [Store(0, 0, 4)] + fence + three + fence
        )
        self.check(run, 1, kept + [data] + fence + four, None, None)
        self.check(run, 1, kept + four, "b", len(kept))
        self.check(run, 1, kept + [data] + four, "b", len(kept) + 1)

    def test_a_later_line_of_a_block_that_is_not_settled(self):
        run = Run((0, 0), [Block([(0, 0, 1)]), Block([(0, 1, 2), (1, 0, 2)])], None)
        one, two, three = self.log_of(run, 2)
        fence = [Flush(0), Flush(1), Flush(2), Fence()]
        start = one + two + fence
        self.check(run, 2, start + three, "b", len(start))
        start = start + [Store(0, 0, 1)] + fence
        self.check(run, 2, start + three, None, None)

    def test_a_block_is_settled_as_a_whole(self):
        run = Run((0, 0), [Block([(0, 0, 1), (1, 0, 2)])], None)
        one, two = self.log_of(run, 2)
        data = Store(0, 0, 1)
        self.check(run, 2, one + [Flush(1), Fence(), data] + two, "a", 7)
        self.check(run, 2, one + two + [Flush(1), Fence(), data], "a", 12)
        self.check(run, 2, one + two + [Flush(2), Fence(), data], "a", 12)
        self.check(run, 2, one + two + [Flush(2), Fence(), Flush(1), Fence(), data], None, None)


class BrokenTest(unittest.TestCase):
    def test_fields_and_equality(self):
        broken = Broken("a", 5)
        self.assertEqual((broken.rule, broken.time), ("a", 5))
        self.assertEqual(broken, Broken(time=5, rule="a"))
        for other in (Broken("b", 5), Broken("a", 6), ("a", 5), None, "a"):
            self.assertFalse(broken == other)
            self.assertTrue(broken != other)


class ErrorsTest(unittest.TestCase):
    LAYOUT = Layout(4, [[1, 0], [2]])
    THREE = Block([(0, 0, 1), (1, 0, 1), (2, 0, 1)])

    def assert_refused(self, expected, run, contents, slots, commands=(Flush(99),)):
        with self.assertRaises(type(expected)) as caught:
            broken_rule(run, self.LAYOUT, contents, slots, commands)
        self.assertEqual(vars(caught.exception), vars(expected))

    def test_errors_in_their_order(self):
        right = blank(self.LAYOUT, 2)
        self.assert_refused(Misfit(2), Run((1, 0), [self.THREE], None), (), 0)
        self.assert_refused(Misfit(3), Run((1, 0, 0, 0), [self.THREE], None), (), 0)
        for slots in (0, 10, True, None, "2", -1):
            self.assert_refused(BadCount("slots", slots), Run((1, 0, 0), [self.THREE], None), (), slots)
        self.assert_refused(Shape(), Run((1, 0, 0), [self.THREE], None), right[1:], 2)
        self.assert_refused(Other(0), Run((1, 0, 0), [self.THREE], None), right, 2)
        self.assert_refused(Wide(3), Run((0, 0, 0), [self.THREE], None), right, 2)

    def test_arguments_stay_as_they_were(self):
        contents = [[0] * 4 for _ in range(5)]
        run = Run((0, 0, 0), [self.THREE, Sync()], None)
        commands = list(translate(run, self.LAYOUT, contents, 3).commands)
        before = list(commands)
        self.assertIsNone(
            broken_rule(commands=commands, slots=3, contents=contents, layout=self.LAYOUT, run=run)
        )
        self.assertEqual(commands, before)
        self.assertEqual(contents, [[0] * 4 for _ in range(5)])
        self.assertEqual(run, Run((0, 0, 0), [self.THREE, Sync()], None))
        self.assertEqual(self.LAYOUT, Layout(4, [[1, 0], [2]]))
        self.assertIsNone(broken_rule(run, self.LAYOUT, tuple(tuple(line) for line in contents), 3, tuple(commands)))


if __name__ == "__main__":
    unittest.main()
