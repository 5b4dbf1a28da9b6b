"""Reading programs."""

from lastheap.parts import Named, Procedure, Table, Variable
from lastheap.statements import read_body
from lastheap.words import Words


class Program:
    """A program that was read: its declarations in order, and `main`."""

    def __init__(self, declarations, main):
        self.declarations = tuple(declarations)
        self.main = main


def read_program(text):
    """Read a program; raises Malformed at the first word that cannot stand."""
    words = Words(text)
    declarations = []
    while not words.sees("main"):
        declarations.append(read_declaration(words))
    main = read_procedure(words, words.take())
    words.want("end")
    return Program(declarations, main)


def read_declaration(words):
    if words.sees("table"):
        return read_table(words)
    if words.sees("var"):
        return read_variable(words)
    words.want("proc")
    return read_procedure(words, words.want("name"))


def read_table(words):
    words.want("table")
    name = words.want("name")
    size = words.want("number")
    words.want("{")
    fields = read_list(words)
    words.want("}")
    return Table(name, size, fields)


def read_variable(words):
    words.want("var")
    name = words.want("name")
    size = None
    if words.sees("["):
        words.take()
        size = words.want("number")
        words.want("]")
    words.want(":")
    kind = read_kind(words)
    words.want(";")
    return Variable(name, size, kind)


def read_procedure(words, name):
    """Read what stands behind the name of a procedure, or behind `main`."""
    words.want("(")
    parameters = ()
    if not words.sees(")"):
        parameters = read_list(words)
    words.want(")")
    return Procedure(name, parameters, read_body(words))


def read_list(words):
    """Read one or more `NAME: KIND`."""
    found = [read_one(words)]
    while words.sees(","):
        words.take()
        found.append(read_one(words))
    return tuple(found)


def read_one(words):
    name = words.want("name")
    words.want(":")
    return Named(name, read_kind(words))


def read_kind(words):
    if words.sees("word"):
        return words.take()
    return words.want("name")
