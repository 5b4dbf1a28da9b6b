"""[2] and the interface: names, arguments by keyword, lists and tuples, for the whole package."""

import copy
import importlib
import inspect
import unittest

from lastheap import errors
from lastheap.desk import Desk
from lastheap.editions import led_over
from lastheap.heaps import empty_heap, places
from lastheap.images import contents_of, count_images, cut_times, image_at, place_of
from lastheap.judging import Fault, judge
from lastheap.lasttexts import block_text, commands_text, heap_text, place_text, read_commands
from lastheap.lines import Fence, Flush, Layout, Store, packed, spread
from lastheap.prefixes import count_by_prefix, image_with, prefix_of, staircase
from lastheap.printer import program_text
from lastheap.reader import Program, read_program
from lastheap.recovery import Recovered, recover
from lastheap.ring import blank, log_pairs
from lastheap.rounds import fences_of_rounds
from lastheap.rules import Broken, broken_rule
from lastheap.running import Block, Out, Run, Stop, Sync, heaps, plain_run
from lastheap.runs import fences, flushes, joined, smallest_ring
from lastheap.runtime import Trace, translate
from lastheap.session import Session
from lastheap.strangers import wrong_image

TEXT = "var x: word; table node 2 { next: node } main(n: word) { x = n; sync; x = n + 1; out x; }"
PROGRAM = read_program(TEXT)
LAYOUT = Layout(4, ((0, 1), (2,)))
CONTENTS = blank(LAYOUT, 2)
RUN = plain_run(PROGRAM, (0, 0, 0), (5,))
TRACE = translate(RUN, LAYOUT, CONTENTS, 2)
IMAGE = image_at(TRACE, 6)
SESSION = Session(PROGRAM, LAYOUT, 2)
# Each function and class, with the names of its arguments in their order, and some arguments.
CALLS = (
    (read_program, {"text": TEXT}),
    (program_text, {"program": PROGRAM}),
    (Fault, {"word": "kind", "line": 1, "column": 2}),
    (judge, {"program": PROGRAM}),
    (places, {"program": PROGRAM}),
    (empty_heap, {"program": PROGRAM}),
    (Block, {"changes": ((0, 1, 2), (3, 4, 5))}),
    (Sync, {}),
    (Out, {"word": 4}),
    (Stop, {"word": "none", "line": 3, "column": 4}),
    (Run, {"start": (0, 1), "events": (Sync(), Out(1)), "stop": None}),
    (plain_run, {"program": PROGRAM, "heap": (0, 1, 2), "arguments": (7,)}),
    (heaps, {"run": RUN}),
    (Layout, {"width": 6, "lines": ((0, 2), (1,))}),
    (packed, {"program": PROGRAM, "width": 6}),
    (spread, {"program": PROGRAM, "width": 6}),
    (Store, {"line": 1, "word": 2, "number": 3}),
    (Flush, {"line": 2}),
    (Fence, {}),
    (log_pairs, {"changes": ((0, 1, 2), (1, 2, 3), (4, 5, 6)), "width": 6}),
    (blank, {"layout": LAYOUT, "slots": 3}),
    (Recovered, {"heap": (1,), "stores": (Store(1, 2, 3),), "applied": 1, "following": 2}),
    (recover, {"contents": CONTENTS, "layout": LAYOUT, "slots": 2}),
    (Trace, {"layout": LAYOUT, "slots": 2, "start": CONTENTS, "commands": (Fence(),), "made": (1,), "passed": (2,),
             "reasons": (("line", 3),), "first": 4}),
    (translate, {"run": RUN, "layout": LAYOUT, "contents": CONTENTS, "slots": 2}),
    (contents_of, {"trace": TRACE, "image": IMAGE}),
    (cut_times, {"trace": TRACE, "image": IMAGE}),
    (count_images, {"trace": TRACE}),
    (image_at, {"trace": TRACE, "place": 3}),
    (place_of, {"trace": TRACE, "image": IMAGE}),
    (staircase, {"trace": TRACE}),
    (prefix_of, {"trace": TRACE, "image": IMAGE}),
    (count_by_prefix, {"trace": TRACE}),
    (image_with, {"trace": TRACE, "prefix": 1}),
    (Broken, {"rule": "a", "time": 3}),
    (broken_rule, {"run": RUN, "layout": LAYOUT, "contents": CONTENTS, "slots": 2, "commands": TRACE.commands[:7]}),
    (wrong_image, {"run": RUN, "layout": LAYOUT, "contents": CONTENTS, "slots": 2, "commands": TRACE.commands,
                   "made": (5, 99), "passed": TRACE.passed}),
    (joined, {"run": RUN, "sizes": (1, 1)}),
    (fences, {"run": RUN, "layout": LAYOUT, "slots": 2}),
    (flushes, {"run": RUN, "layout": LAYOUT, "slots": 2}),
    (smallest_ring, {"run": RUN, "layout": LAYOUT, "most": 2}),
    (fences_of_rounds, {"blocks": ((0, 1), (2,)), "width": 4, "slots": 2, "rounds": 9}),
    (led_over, {"old": PROGRAM, "new": PROGRAM, "heap": (4, 1, 2)}),
    (Session, {"program": PROGRAM, "layout": LAYOUT, "slots": 2}),
    (commands_text, {"commands": TRACE.commands}),
    (read_commands, {"text": "fence, flush 2"}),
    (place_text, {"name": ("node", 1, "next")}),
    (block_text, {"program": PROGRAM, "block": Block(((0, 1, 2),))}),
    (heap_text, {"program": PROGRAM, "heap": (3, 0, 1)}),
    (Desk, {"program": PROGRAM, "layout": LAYOUT, "slots": 2}),
)
# What stands in the document, module by module, beside the errors.
LISTED = {
    "reader": (Program, read_program), "printer": (program_text,), "judging": (Fault, judge),
    "heaps": (places, empty_heap), "running": (Block, Sync, Out, Stop, Run, plain_run, heaps),
    "lines": (Layout, packed, spread, Store, Flush, Fence), "ring": (log_pairs, blank),
    "recovery": (Recovered, recover), "runtime": (Trace, translate),
    "images": (contents_of, cut_times, count_images, image_at, place_of),
    "prefixes": (staircase, prefix_of, count_by_prefix, image_with), "rules": (Broken, broken_rule),
    "strangers": (wrong_image,), "runs": (joined, fences, flushes, smallest_ring), "rounds": (fences_of_rounds,),
    "editions": (led_over,), "session": (Session,),
    "lasttexts": (commands_text, read_commands, place_text, block_text, heap_text), "desk": (Desk,),
}


def as_lists(value):
    """The same with lists in place of tuples."""
    return [as_lists(one) for one in value] if isinstance(value, tuple) else value


def plainly(value):
    """What can be compared, also of programs, sessions and desks."""
    if isinstance(value, Program):
        return program_text(value)
    if isinstance(value, Session):
        value.begin([5])
        return (value.now(), value.history(), value.many(), value.run(), value.trace(), value.cut(IMAGE), value.now())
    if isinstance(value, Desk):
        return [value.tell(row) for row in ("start 5", "commands", "images", "cut 9", "history", "heap")]
    return (type(value), value)


class CallsTest(unittest.TestCase):
    def test_by_keyword(self):
        for function, arguments in CALLS:
            expected = plainly(function(*arguments.values()))
            backwards = dict(reversed(list(arguments.items())))
            self.assertEqual(plainly(function(**backwards)), expected, function.__name__)
            turned = dict(list(arguments.items())[1:] + list(arguments.items())[:1])
            self.assertEqual(plainly(function(**turned)), expected, function.__name__)
            first, *others = arguments.items() if arguments else [()]
            if others:
                self.assertEqual(plainly(function(first[1], **dict(reversed(others)))), expected, function.__name__)

    def test_lists_and_tuples(self):
        for function, arguments in CALLS:
            expected = plainly(function(**arguments))
            lists = {name: as_lists(value) for name, value in arguments.items()}
            before = copy.deepcopy(lists)
            self.assertEqual(plainly(function(**lists)), expected, function.__name__)
            # Nothing that is passed changes.
            for name, value in arguments.items():
                if not isinstance(value, Program):
                    self.assertEqual(lists[name], before[name], function.__name__)
                else:
                    self.assertEqual(program_text(lists[name]), program_text(before[name]))

    def test_twice_the_same(self):
        for function, arguments in CALLS:
            one, two = function(**arguments), function(**arguments)
            self.assertEqual(plainly(one), plainly(two), function.__name__)
            if isinstance(one, list):
                self.assertIsNot(one, two)
                for inner, other in zip(one, two):
                    if isinstance(inner, list):
                        self.assertIsNot(inner, other)

    def test_objects_store_tuples(self):
        for function, arguments in CALLS:
            if inspect.isclass(function) and function not in (Session, Desk):
                made = function(**{name: as_lists(value) for name, value in arguments.items()})
                self.assertEqual(set(vars(made)), set(arguments), function.__name__)
                for name, value in arguments.items():
                    self.assertEqual(getattr(made, name), value)
                    self.assertIs(type(getattr(made, name)), type(value))

    def test_objects_are_equal_by_class_and_fields(self):
        objects = []
        for function, arguments in CALLS:
            if inspect.isclass(function) and function not in (Session, Desk):
                objects.append((function(**arguments), function(**arguments)))
        for at, (one, two) in enumerate(objects):
            self.assertTrue(one == two)
            self.assertFalse(one != two)
            for other_at, (other, _) in enumerate(objects):
                self.assertEqual(one == other, at == other_at)
            self.assertFalse(one == None)  # noqa: E711
            self.assertFalse(one == tuple(vars(one).values()))

    def test_names_of_arguments(self):
        for function, arguments in CALLS:
            names = list(inspect.signature(function).parameters)
            self.assertEqual(names, list(arguments), function.__name__)

    def test_all_that_is_listed_is_called(self):
        called = {function for function, _ in CALLS}
        listed = {one for ones in LISTED.values() for one in ones}
        self.assertEqual(called | {Program}, listed)


class MethodsTest(unittest.TestCase):
    METHODS = {
        Session: {"now": [], "begin": ["arguments"], "trace": [], "run": [], "cut": ["image"], "finish": [],
                  "history": [], "back": [], "many": []},
        Desk: {"tell": ["row"]},
    }

    def test_each_is_defined_in_its_class(self):
        for owner, methods in self.METHODS.items():
            for name, arguments in methods.items():
                self.assertIn(name, vars(owner))
                self.assertEqual(list(inspect.signature(vars(owner)[name]).parameters)[1:], arguments)
        for name, found in vars(errors).items():
            if inspect.isclass(found) and found is not errors.HeapError:
                self.assertIn("told", vars(found), name)

    def test_by_keyword(self):
        session = Session(slots=2, program=PROGRAM, layout=LAYOUT)
        self.assertEqual(session.begin(arguments=(5,)), RUN)
        self.assertEqual(session.cut(image=IMAGE), 1)
        desk = Desk(layout=LAYOUT, slots=2, program=PROGRAM)
        self.assertEqual(desk.tell(row="start 5"), ["run 2", "out 6"])


class FilesTest(unittest.TestCase):
    def test_each_is_defined_where_it_is_listed(self):
        for module, ones in LISTED.items():
            found = importlib.import_module("lastheap." + module)
            for one in ones:
                self.assertIs(getattr(found, one.__name__), one)
                self.assertEqual(one.__module__, "lastheap." + module)


class NoPlacesTest(unittest.TestCase):
    """Programs without variables and tables go through everything."""

    PROGRAM = read_program("main(n: word) { out n; sync; out n * 2; }")
    EMPTY = read_program("main() {}")

    def test_the_language(self):
        self.assertEqual((places(self.PROGRAM), empty_heap(self.PROGRAM)), ([], ()))
        for layout in (packed(self.PROGRAM, 4), spread(self.PROGRAM, 12), packed(self.EMPTY, 8)):
            self.assertEqual(layout.lines, ())
        run = plain_run(self.PROGRAM, (), [4])
        self.assertEqual(run, Run((), [Out(4), Sync(), Out(8)], None))
        self.assertEqual(heaps(run), [()])
        self.assertEqual(plain_run(self.EMPTY, [], []), Run((), (), None))
        self.assertEqual(led_over(self.PROGRAM, self.EMPTY, ()), ())
        self.assertEqual((heap_text(self.EMPTY, ()), block_text(self.EMPTY, Block([]))), ("empty", ""))
        for heap in ((0,), [0], (None,)):
            with self.assertRaises(errors.Misfit) as caught:
                plain_run(self.EMPTY, heap, [])
            self.assertEqual(caught.exception.place, 1)

    def test_the_memory(self):
        layout = Layout(4, [])
        run = plain_run(self.PROGRAM, (), [4])
        for slots in range(1, 10):
            contents = blank(layout, slots)
            self.assertEqual(contents, ((0,) * 4,) * slots)
            self.assertEqual(recover(contents, layout, slots), Recovered((), (), 0, 0))
            trace = translate(run, layout, contents, slots)
            self.assertEqual(trace, Trace(layout, slots, contents, (), (), (0, 0, 0), (), 0))
            image = (0,) * slots
            self.assertEqual((count_images(trace), image_at(trace, 0), place_of(trace, image)), (1, image, 0))
            self.assertEqual((contents_of(trace, image), cut_times(trace, image)), (contents, (0, 0)))
            self.assertEqual((staircase(trace), count_by_prefix(trace)), ([(0, 0)], [1]))
            self.assertEqual((prefix_of(trace, image), image_with(trace, 0)), (0, image))
            self.assertIsNone(broken_rule(run, layout, contents, slots, ()))
            self.assertIsNone(wrong_image(run, layout, contents, slots, (), (), (0, 0, 0)))
            self.assertEqual((fences(run, layout, slots), flushes(run, layout, slots)), (0, 0))
        self.assertEqual(smallest_ring(run, layout, 0), 1)
        self.assertEqual(joined(run, []), run)

    def test_sessions_and_desks(self):
        session = Session(self.PROGRAM, Layout(4, []), 1)
        session.begin([1])
        self.assertEqual(session.cut((0,)), 0)
        session.begin([2])
        self.assertEqual(session.finish(), 0)
        self.assertEqual((session.now(), session.history(), session.many()), ((), [((1,), 0), ((2,), 0)], 4))
        desk = Desk(self.EMPTY, Layout(4, []), 9)
        told = [desk.tell(row) for row in ("start", "images", "prefixes", "commands", "cut 0", "heap", "history", "start",
                                           "finish", "back", "back", "back", "back", "back")]
        self.assertEqual(told, [
            ["run 0"], ["1"], ["1"], ["nothing"], ["left 0"], ["empty"], ["0"], ["run 0"], ["left 0"], ["done"], ["done"],
            ["done"], ["done"], ["refused noback"],
        ])


if __name__ == "__main__":
    unittest.main()
