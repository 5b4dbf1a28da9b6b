"""What a program consists of: declarations, the rows of bodies, the parts of expressions."""

# The levels of the operators, from the loosest one; an open bracket holds nothing back.
BRACKET = 0
NOT = 3
COMPARISON = 4
MINUS = 7
TIGHT = 8
LEVELS = {
    "or": 1, "and": 2,
    "==": 4, "!=": 4, "<": 4, "<=": 4, ">": 4, ">=": 4,
    "+": 5, "-": 5,
    "*": 6, "/": 6, "mod": 6,
}
# The acts of the rows behind which a block begins.
OPENING = ("if", "else", "while", "atomic")


class Part:
    """A step of an expression; an expression is a tuple of its steps in the order of evaluation.

    The act is
    - "number", "none", "name" or "new": gives something; the word is the number's,
      the name's or the table's;
    - "element": takes an index and gives an element; the word is the array's name;
    - "field": takes a reference and gives a field; the word is the field's name;
    - "minus" or "not", or an operator with two operands by its sign: takes its operands;
      the word is the operator;
    - "first": changes nothing, but tells that what was given last begins at this word,
      a parenthesis or `new`.
    A place has the same steps as if it was read.
    """

    def __init__(self, act, word):
        self.act = act
        self.word = word


class Row:
    """A statement, or a brace that closes; `first` is its first word.

    The act is one of those that the classes below give, or
    - "atomic" or "sync";
    - "else": ends the block of an `if` and begins another one;
    - "end": ends a block or the body.
    A body is a tuple of rows: a block's rows stand between the row that begins it and the
    "end", so that going through nested blocks needs no recursion.
    """

    def __init__(self, act, first):
        self.act = act
        self.first = first


class LetRow(Row):
    """`let NAME = VALUE;`"""

    def __init__(self, first, name, value):
        Row.__init__(self, "let", first)
        self.name = name
        self.value = value


class SetRow(Row):
    """`PLACE = VALUE;`"""

    def __init__(self, first, place, value):
        Row.__init__(self, "set", first)
        self.place = place
        self.value = value


class CallRow(Row):
    """`NAME(EXPRESSION, ..);`; its first word is the name."""

    def __init__(self, first, arguments):
        Row.__init__(self, "call", first)
        self.arguments = arguments


class IfRow(Row):
    """`if EXPRESSION {`"""

    def __init__(self, first, value):
        Row.__init__(self, "if", first)
        self.value = value


class WhileRow(Row):
    """`while EXPRESSION max NUMBER {`"""

    def __init__(self, first, value, most):
        Row.__init__(self, "while", first)
        self.value = value
        self.most = most


class OutRow(Row):
    """`out EXPRESSION;`"""

    def __init__(self, first, value):
        Row.__init__(self, "out", first)
        self.value = value


class Named:
    """A field or a parameter: the words of its name and of its kind."""

    def __init__(self, name, kind):
        self.name = name
        self.kind = kind


class Table:
    """A table; its name and size are words, its fields are of the class Named."""

    def __init__(self, name, size, fields):
        self.act = "table"
        self.name = name
        self.size = size
        self.fields = fields


class Variable:
    """A variable, or an array if its size is not None."""

    def __init__(self, name, size, kind):
        self.act = "var"
        self.name = name
        self.size = size
        self.kind = kind


class Procedure:
    """A procedure, or `main`, the name of which is that reserved word."""

    def __init__(self, name, parameters, rows):
        self.act = "proc"
        self.name = name
        self.parameters = parameters
        self.rows = rows
