"""What several tests need.

A MARKED text has the character `@` in front of the word that is meant.
"""

import unittest

from lastheap.errors import Malformed
from lastheap.judging import judge
from lastheap.printer import program_text
from lastheap.reader import read_program


def unmarked(marked):
    """The text without the mark, and the line and column of the mark."""
    before, mark, after = marked.partition("@")
    if not mark or "@" in after:
        raise ValueError("one mark is needed: " + marked)
    return before + after, (before.count("\n") + 1, len(before) - before.rfind("\n"))


def malformed_at(text):
    """The line and column of the error, or None."""
    try:
        read_program(text)
    except Malformed as error:
        return (error.line, error.column)
    return None


def fault_of(text):
    """The fault as a tuple, or None."""
    fault = judge(read_program(text))
    if fault is None:
        return None
    return (fault.word, fault.line, fault.column)


def printed(text):
    return program_text(read_program(text))


def printed_expression(expression):
    """The fixed form of an expression."""
    lines = printed("main(){out " + expression + ";}").split("\n")
    assert len(lines) == 3 and lines[1].startswith("    out ") and lines[1].endswith(";"), lines
    return lines[1][len("    out "):-1]


class TextCase(unittest.TestCase):
    def assert_malformed(self, marked):
        text, place = unmarked(marked)
        self.assertEqual(malformed_at(text), place, marked)

    def assert_reads(self, text):
        self.assertIsNone(malformed_at(text), text)

    def assert_fault(self, word, marked):
        text, place = unmarked(marked)
        self.assertEqual(fault_of(text), (word, *place), marked)

    def assert_fine(self, text):
        self.assertIsNone(fault_of(text), text)

    def assert_fixed(self, text, lines):
        fixed = "\n".join(lines)
        self.assertEqual(printed(text), fixed)
        self.assertEqual(printed(fixed), fixed)
