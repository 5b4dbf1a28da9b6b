"""Reading statements into the rows of a body."""

from lastheap.expressions import read_expression, read_place, read_value
from lastheap.parts import OPENING, CallRow, IfRow, LetRow, OutRow, Row, SetRow, WhileRow


def read_body(words):
    """Read from the brace that opens a body to the one that closes it."""
    words.want("{")
    rows = []
    inside = ["body"]
    while inside:
        if words.sees("}"):
            closing = words.take()
            row = Row("end", closing)
            if inside.pop() == "if" and words.sees("else"):
                row = read_else(words)
        else:
            row = read_row(words)
        rows.append(row)
        if row.act in OPENING:
            inside.append(row.act)
    return tuple(rows)


def read_row(words):
    """Read a statement, or what stands up to the brace that opens its block."""
    form = words.ahead()
    if form not in READERS:
        words.refuse()
    action = READERS[form]
    return action(words)


def read_let(words):
    first = words.take()
    name = words.want("name")
    words.want("=")
    value = read_value(words)
    words.want(";")
    return LetRow(first, name, value)


def read_named_row(words):
    """Read a call or a store."""
    if words.sees_call():
        return read_call(words)
    first = words.next_word()
    place = read_place(words)
    words.want("=")
    value = read_value(words)
    words.want(";")
    return SetRow(first, place, value)


def read_call(words):
    first = words.take()
    arguments = read_arguments(words)
    words.want(";")
    return CallRow(first, arguments)


def read_arguments(words):
    words.want("(")
    arguments = []
    if not words.sees(")"):
        arguments.append(read_expression(words))
        while words.sees(","):
            words.take()
            arguments.append(read_expression(words))
    words.want(")")
    return tuple(arguments)


def read_if(words):
    first = words.take()
    value = read_expression(words)
    words.want("{")
    return IfRow(first, value)


def read_else(words):
    first = words.take()
    words.want("{")
    return Row("else", first)


def read_while(words):
    first = words.take()
    value = read_expression(words)
    words.want("max")
    most = words.want("number")
    words.want("{")
    return WhileRow(first, value, most)


def read_atomic(words):
    first = words.take()
    words.want("{")
    return Row("atomic", first)


def read_sync(words):
    first = words.take()
    words.want(";")
    return Row("sync", first)


def read_out(words):
    first = words.take()
    value = read_expression(words)
    words.want(";")
    return OutRow(first, value)


READERS = {
    "name": read_named_row,
    "let": read_let,
    "if": read_if,
    "while": read_while,
    "atomic": read_atomic,
    "sync": read_sync,
    "out": read_out,
}
