"""Judging programs."""

from lastheap.faultfinder import FAULTS, FaultFinder


class Fault:
    """What is wrong, as one word, and the place of the word at which it lies."""

    def __init__(self, word, line, column):
        self.word = word
        self.line = line
        self.column = column

    def __eq__(self, other):
        return (
            isinstance(other, Fault)
            and self.word == other.word
            and self.line == other.line
            and self.column == other.column
        )


def judge(program):
    """The first fault in the order of the text, or None."""
    finder = FaultFinder(program.declarations)
    finder.look_at_declarations(program.declarations)
    finder.look_at_main(program.main)
    if not finder.found:
        return None
    line, column, index = min(finder.found)
    return Fault(FAULTS[index], line, column)
