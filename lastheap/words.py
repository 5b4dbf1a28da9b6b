"""The words of a text, with their places, and a reader that goes from one to the next."""

from lastheap.errors import Malformed
from lastheap.numerals import is_numeral

LETTERS = "abcdefghijklmnopqrstuvwxyz"
ROW = "abcdefghijklmnopqrstuvwxyz0123456789_"
RESERVED = (
    "table", "var", "proc", "main", "let", "new", "none", "if", "else", "while", "max",
    "atomic", "sync", "out", "and", "or", "not", "mod", "word",
)
LONG_SIGNS = ("==", "!=", "<=", ">=")
SIGNS = (
    "{", "}", "(", ")", "[", "]", ":", ";", ",", ".", "=", "<", ">", "+", "-", "*", "/",
)
MOST_LETTERS = 12
MOST_DIGITS = 18


class Word:
    """A word of a text, or what is malformed, and the place where it begins.

    Its form is "name", "number", "bad" or "end" (the end of the text), and for
    a reserved word or a sign its own text.
    """

    def __init__(self, form, text, line, column):
        self.form = form
        self.text = text
        self.line = line
        self.column = column


class Words:
    """The words of a text; each one is looked at before it is taken."""

    def __init__(self, text):
        self.words = split_words(text)
        self.at = 0

    def next_word(self):
        """The next word, which is not taken yet."""
        return self.words[self.at]

    def ahead(self):
        """The form of the next word."""
        word = self.next_word()
        return word.form

    def sees(self, form):
        return self.ahead() == form

    def sees_index(self):
        """Whether a name and the index of an element come next."""
        # Behind a name there is always another word, at least the end of the text.
        return self.sees("name") and self.words[self.at + 1].form == "["

    def sees_call(self):
        """Whether the name of a called procedure comes next."""
        return self.sees("name") and self.words[self.at + 1].form == "("

    def take(self):
        word = self.next_word()
        self.at += 1
        return word

    def want(self, form):
        """Take the next word, which must have this form."""
        if not self.sees(form):
            self.refuse()
        return self.take()

    def refuse(self):
        """Raise the error for the next word."""
        word = self.next_word()
        raise Malformed(word.line, word.column)


def split_words(text):
    """The words of a text; the last one is its end."""
    words = []
    line = 1
    column = 1
    at = 0
    while at < len(text):
        size = 1
        if text[at] not in (" ", "\n"):
            size = word_size(text, at)
            found = text[at:at + size]
            words.append(Word(form_of(found), found, line, column))
        if text[at] == "\n":
            line += 1
            column = 1
        else:
            column += size
        at += size
    words.append(Word("end", "", line, column))
    return words


def word_size(text, at):
    """The number of characters of the longest word that begins here."""
    if text[at:at + 2] in LONG_SIGNS:
        return 2
    size = 1
    if text[at] in ROW:
        while at + size < len(text) and text[at + size] in ROW:
            size += 1
    return size


def form_of(text):
    if text in RESERVED or text in SIGNS or text in LONG_SIGNS:
        return text
    if text[0] in LETTERS and len(text) <= MOST_LETTERS:
        return "name"
    if is_numeral(text, MOST_DIGITS):
        return "number"
    return "bad"
