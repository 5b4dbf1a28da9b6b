"""Reading expressions and places into their parts."""

from lastheap.parts import BRACKET, COMPARISON, LEVELS, MINUS, NOT, Part


class ExpressionReader:
    """Reads one expression.

    `waiting` holds, as (level, act, word), the operators whose last operand is still being
    read, and the open brackets: "(", or "[" with the word of the array's name.
    """

    def __init__(self, words):
        self.words = words
        self.parts = []
        self.waiting = []

    def read(self):
        while True:
            self.read_operand()
            while self.words.ahead() not in LEVELS:
                self.settle(BRACKET + 1)
                if not self.waiting:
                    return tuple(self.parts)
                self.close_bracket()
            self.read_operator()

    def read_operand(self):
        """Read up to a number, `none` or a place that is no element."""
        while self.read_prefix():
            pass
        form = self.words.ahead()
        if form == "name":
            self.parts.extend(read_named(self.words))
        elif form in ("number", "none"):
            self.parts.append(Part(form, self.words.take()))
        else:
            self.words.refuse()

    def read_prefix(self):
        """Read a prefix operator or an opening bracket; returns whether there was one."""
        form = self.words.ahead()
        if form == "-":
            self.waiting.append((MINUS, "minus", self.words.take()))
        elif form == "not" and self.level() <= NOT:
            self.waiting.append((NOT, "not", self.words.take()))
        elif form == "(":
            self.waiting.append((BRACKET, "(", self.words.take()))
        elif self.words.sees_index():
            self.waiting.append((BRACKET, "[", self.words.take()))
            self.words.take()
        else:
            return False
        return True

    def read_operator(self):
        """Read an operator that stands behind its first operand."""
        form = self.words.ahead()
        level = LEVELS[form]
        self.settle(level + 1)
        # A comparison is no operand of another one, while the other operators go to the left.
        if level == COMPARISON and self.level() == COMPARISON:
            self.words.refuse()
        self.settle(level)
        self.waiting.append((level, form, self.words.take()))

    def close_bracket(self):
        _, act, word = self.waiting.pop()
        if act == "(":
            self.words.want(")")
            self.parts.append(Part("first", word))
        else:
            self.words.want("]")
            self.parts.append(Part("element", word))
            self.parts.extend(read_fields(self.words))

    def level(self):
        """The level of the operator that waits last, or of the bracket around it all."""
        if not self.waiting:
            return BRACKET
        return self.waiting[-1][0]

    def settle(self, level):
        """Turn the last waiting operators of this level or a tighter one into parts."""
        while self.level() >= level:
            _, act, word = self.waiting.pop()
            self.parts.append(Part(act, word))


def read_expression(words):
    reader = ExpressionReader(words)
    return reader.read()


def read_place(words):
    """Read a place that a statement stores to."""
    if not words.sees_index():
        return tuple(read_named(words))
    name = words.take()
    words.want("[")
    parts = list(read_expression(words))
    words.want("]")
    parts.append(Part("element", name))
    parts.extend(read_fields(words))
    return tuple(parts)


def read_named(words):
    """Read a place without an index."""
    return [Part("name", words.want("name"))] + read_fields(words)


def read_fields(words):
    """Read any number of `.FIELD`."""
    fields = []
    while words.sees("."):
        words.take()
        fields.append(Part("field", words.want("name")))
    return fields


def read_value(words):
    """Read an expression or `new TABLE`."""
    if not words.sees("new"):
        return read_expression(words)
    first = words.take()
    return (Part("new", words.want("name")), Part("first", first))
