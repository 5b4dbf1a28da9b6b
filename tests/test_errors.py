"""[2] and the interface: the errors, and equality of faults."""

import unittest

from lastheap import errors
from lastheap.errors import HeapError
from lastheap.judging import Fault, judge
from lastheap.printer import program_text
from lastheap.reader import Program, read_program

FIELDS = {
    "Malformed": ("line", "column"),
    "Faulty": ("fault",),
    "Misfit": ("place",),
    "BadCount": ("what", "count"),
    "Shape": (),
    "Other": ("place",),
    "Wide": ("count",),
    "NoImage": (),
    "NoPlace": ("place",),
    "BadLine": ("time",),
    "Large": ("count",),
    "Busy": (),
    "Idle": (),
    "NoBack": (),
    "BadText": ("place",),
}


class ErrorsTest(unittest.TestCase):
    def test_there_are_fifteen(self):
        defined = [
            name for name, found in vars(errors).items()
            if isinstance(found, type) and issubclass(found, HeapError) and found is not HeapError
        ]
        self.assertEqual(sorted(defined), sorted(FIELDS))
        self.assertEqual(len(defined), 15)

    def test_base(self):
        self.assertEqual(HeapError.__bases__, (ValueError,))
        self.assertEqual(HeapError.__module__, "lastheap.errors")

    def test_each_derives_directly_and_tells(self):
        for name in FIELDS:
            error = getattr(errors, name)
            self.assertEqual(error.__bases__, (HeapError,), name)
            self.assertIn("told", vars(error), name)
            self.assertEqual(error.__module__, "lastheap.errors")

    def test_by_position(self):
        for name, fields in FIELDS.items():
            given = [object() for _ in fields]
            self.check(name, fields, given, getattr(errors, name)(*given))

    def test_by_keyword(self):
        for name, fields in FIELDS.items():
            given = [object() for _ in fields]
            keywords = dict(reversed(list(zip(fields, given))))
            self.check(name, fields, given, getattr(errors, name)(**keywords))

    def check(self, name, fields, given, error):
        for field, one in zip(fields, given):
            self.assertIs(getattr(error, field), one, name)
        self.assertEqual(error.told(), "refused " + name.lower())
        self.assertIsInstance(error, HeapError)
        self.assertIsInstance(error, ValueError)
        for other in FIELDS:
            self.assertEqual(isinstance(error, getattr(errors, other)), other == name)

    def test_errors_keep_what_they_are_given(self):
        rows = [[1], (2,)]
        self.assertIs(errors.Misfit(rows).place, rows)
        self.assertEqual(errors.BadCount("made", rows).count, [[1], (2,)])
        fault = Fault("kind", 1, 2)
        self.assertIs(errors.Faulty(fault=fault).fault, fault)

    def test_can_be_raised_and_caught(self):
        for name, fields in FIELDS.items():
            with self.assertRaises(HeapError) as caught:
                raise getattr(errors, name)(*fields)
            for field in fields:
                self.assertEqual(getattr(caught.exception, field), field)


class FaultTest(unittest.TestCase):
    def test_fields(self):
        for fault in (Fault("kind", 2, 7), Fault(column=7, line=2, word="kind")):
            self.assertEqual((fault.word, fault.line, fault.column), ("kind", 2, 7))

    def test_equality(self):
        fault = Fault("kind", 2, 7)
        self.assertTrue(fault == Fault("kind", 2, 7))
        self.assertFalse(fault != Fault("kind", 2, 7))
        for other in (Fault("name", 2, 7), Fault("kind", 3, 7), Fault("kind", 2, 8)):
            self.assertFalse(fault == other)
            self.assertTrue(fault != other)

    def test_never_equal_to_another_class(self):
        class Like:
            word = "kind"
            line = 2
            column = 7

        for other in (("kind", 2, 7), ["kind", 2, 7], "kind", 2, None, Like()):
            self.assertFalse(Fault("kind", 2, 7) == other)
            self.assertFalse(other == Fault("kind", 2, 7))
            self.assertTrue(Fault("kind", 2, 7) != other)


class InterfaceTest(unittest.TestCase):
    def test_defined_where_listed(self):
        self.assertEqual(Program.__module__, "lastheap.reader")
        self.assertEqual(read_program.__module__, "lastheap.reader")
        self.assertEqual(program_text.__module__, "lastheap.printer")
        self.assertEqual(judge.__module__, "lastheap.judging")
        self.assertEqual(Fault.__module__, "lastheap.judging")

    def test_keywords(self):
        program = read_program(text="main() { out none; }")
        self.assertIsInstance(program, Program)
        self.assertEqual(program_text(program=program), "main() {\n    out none;\n}")
        self.assertEqual(judge(program=program), Fault("kind", 1, 14))
        with self.assertRaises(errors.Malformed) as caught:
            read_program(text="main")
        self.assertEqual((caught.exception.line, caught.exception.column), (1, 5))

    def test_calls_change_nothing(self):
        program = read_program("var x:word;\nmain(n:word){let y=n;x=y+none;}")
        text = program_text(program)
        for _ in range(2):
            self.assertEqual(judge(program), Fault("kind", 2, 26))
            self.assertEqual(program_text(program), text)


if __name__ == "__main__":
    unittest.main()
