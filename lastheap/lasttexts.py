"""Commands, places, blocks and heaps as texts."""

from lastheap.errors import BadText
from lastheap.heaps import check_heap
from lastheap.lines import Fence, Flush, Store
from lastheap.numerals import is_numeral, is_signed_numeral, number_text
from lastheap.sites import sites_of

MOST_DIGITS = 60
NOTHING = "nothing"
SEPARATOR = ", "


def commands_text(commands):
    """The texts of commands, or `nothing`."""
    if not commands:
        return NOTHING
    return SEPARATOR.join([command_text(command) for command in commands])


def command_text(command):
    if isinstance(command, Fence):
        return "fence"
    line = number_text(command.line)
    if isinstance(command, Flush):
        return f"flush {line}"
    return f"store {line} {number_text(command.word)} {number_text(command.number)}"


def read_commands(text):
    """The commands that a text tells; raises BadText."""
    if text == NOTHING:
        return []
    commands = []
    for place, part in enumerate(text.split(SEPARATOR)):
        command = read_command(part.split(" "))
        if command is None:
            raise BadText(place)
        commands.append(command)
    return commands


def read_command(words):
    """The command with these words, or None."""
    if words == ["fence"]:
        return Fence()
    if len(words) == 2 and words[0] == "flush" and is_numeral(words[1], MOST_DIGITS):
        return Flush(int(words[1]))
    if len(words) == 4 and words[0] == "store" and are_numerals(words[1:]):
        return Store(int(words[1]), int(words[2]), int(words[3]))
    return None


def are_numerals(words):
    """Whether these are a line, a word and a number, which alone may be negative."""
    line, word, number = words
    return is_numeral(line, MOST_DIGITS) and is_numeral(word, MOST_DIGITS) and is_signed_numeral(number, MOST_DIGITS)


def place_text(name):
    """The text of a place's name."""
    if len(name) == 1:
        return name[0]
    text = f"{name[0]}[{number_text(name[1])}]"
    if len(name) == 2:
        return text
    return f"{text}.{name[2]}"


def block_text(program, block):
    """The changes of a block, with the places of a program; raises Faulty."""
    labels = sites_of(program).labels
    return " ".join([change_text(labels[place], old, new) for place, old, new in block.changes])


def change_text(label, old, new):
    return f"{place_text(label)}:{number_text(old)}>{number_text(new)}"


def heap_text(program, heap):
    """The words of a heap that are not 0, or `empty`; raises Faulty and Misfit."""
    sites = sites_of(program)
    check_heap(sites, heap)
    words = [f"{place_text(label)}={number_text(word)}" for label, word in zip(sites.labels, heap) if word != 0]
    if not words:
        return "empty"
    return " ".join(words)
