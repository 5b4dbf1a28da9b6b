"""Commands in words, and what is answered."""

from lastheap.errors import BadText, HeapError
from lastheap.images import count_images, image_at
from lastheap.lasttexts import commands_text, heap_text
from lastheap.numerals import is_numeral, is_signed_numeral
from lastheap.prefixes import count_by_prefix
from lastheap.running import Out, blocks_of
from lastheap.session import Session

MOST_DIGITS = 18
MOST_PLACE_DIGITS = 60


def do_start(desk, words):
    run = desk.session.begin([int(word) for word in words])
    answers = [f"run {len(blocks_of(run))}"]
    answers.extend([f"out {event.word}" for event in run.events if isinstance(event, Out)])
    if run.stop is not None:
        answers.append(f"stop {run.stop.word} {run.stop.line} {run.stop.column}")
    return answers


def do_cut(desk, words):
    image = image_at(desk.session.trace(), int(words[0]))
    return [f"left {desk.session.cut(image)}"]


def do_finish(desk, words):
    return [f"left {desk.session.finish()}"]


def do_back(desk, words):
    desk.session.back()
    return ["done"]


def tell_heap(desk, words):
    return [heap_text(desk.program, desk.session.now())]


def tell_images(desk, words):
    return [str(count_images(desk.session.trace()))]


def tell_prefixes(desk, words):
    return [" ".join([str(many) for many in count_by_prefix(desk.session.trace())])]


def tell_commands(desk, words):
    return [commands_text(desk.session.trace().commands)]


def tell_history(desk, words):
    answers = []
    for arguments, left in desk.session.history():
        answers.append(" ".join([str(number) for number in list(arguments) + [left]]))
    return answers


ACTIONS = {
    "start": do_start, "cut": do_cut, "finish": do_finish, "back": do_back,
    "heap": tell_heap, "images": tell_images, "prefixes": tell_prefixes,
    "commands": tell_commands, "history": tell_history,
}


class Desk:
    """A session that is led by commands in words."""

    def __init__(self, program, layout, slots):
        self.program = program
        self.session = Session(program, layout, slots)

    def tell(self, row):
        """Do a command; returns its answers, or why it is refused."""
        words = row.split(" ")
        try:
            if not is_command(words[0], words[1:]):
                raise BadText(0)
            action = ACTIONS[words[0]]
            return action(self, words[1:])
        except HeapError as error:
            return [error.told()]


def is_command(name, words):
    """Whether these words may stand behind this name."""
    if name == "start":
        return all([is_signed_numeral(word, MOST_DIGITS) for word in words])
    if name == "cut":
        return len(words) == 1 and is_numeral(words[0], MOST_PLACE_DIGITS)
    return name in ACTIONS and not words
