"""Finding the faults of a program."""

from lastheap.calls import Calls
from lastheap.names import UNKNOWN, Names
from lastheap.parts import LEVELS, OPENING

# In this order they count if there are several at one word.
FAULTS = ("name", "size", "kind", "call", "atomic")
MOST_NAMED = 6
MOST_SIZE = 16
MOST_ROUNDS = 1000


class FaultFinder:
    """Goes through a program and notes its faults.

    What an expression gives is a pair: its kind, and its first word.
    """

    def __init__(self, declarations):
        self.names = Names(declarations)
        self.calls = Calls(self.names.declared)
        # Each fault as (line, column, index in FAULTS).
        self.found = []
        # The name of the procedure, and the acts of the blocks that are not closed.
        self.current = ""
        self.inside = []

    def note(self, fault, word):
        self.found.append((word.line, word.column, FAULTS.index(fault)))

    def look_at_declarations(self, declarations):
        self.look_at_repeated(declarations)
        for declaration in declarations:
            if declaration.act == "table":
                self.look_at_table(declaration)
            elif declaration.act == "var":
                self.look_at_variable(declaration)
            else:
                self.look_at_procedure(declaration)

    def look_at_repeated(self, named):
        seen = {}
        for one in named:
            if one.name.text in seen:
                self.note("name", one.name)
            seen[one.name.text] = True

    def look_at_many(self, named):
        if len(named) > MOST_NAMED:
            self.note("size", named[MOST_NAMED].name)

    def look_at_table(self, table):
        self.look_at_size(table.size)
        self.look_at_repeated(table.fields)
        self.look_at_many(table.fields)
        for field in table.fields:
            self.look_at_kind(field.kind)

    def look_at_variable(self, variable):
        if variable.size is not None:
            self.look_at_size(variable.size)
        self.look_at_kind(variable.kind)

    def look_at_size(self, size):
        if not 1 <= int(size.text) <= MOST_SIZE:
            self.note("size", size)

    def look_at_kind(self, kind):
        if kind.form != "word":
            self.use(kind, ("table",))

    def look_at_procedure(self, procedure):
        self.current = procedure.name.text
        self.names.enter()
        for parameter in procedure.parameters:
            self.declare(parameter.name, self.names.kind_of(parameter.kind))
        self.look_at_many(procedure.parameters)
        # Only now, since a parameter can be used in the whole procedure.
        for parameter in procedure.parameters:
            self.look_at_kind(parameter.kind)
        self.begin("body")
        for row in procedure.rows:
            self.look_at_row(row)
        self.names.leave()

    def look_at_main(self, main):
        self.look_at_procedure(main)
        for parameter in main.parameters:
            if parameter.kind.form != "word":
                self.note("kind", parameter.kind)

    def declare(self, word, kind):
        """Declare a parameter or local."""
        found, _ = self.names.look_up(word.text)
        if found == "":
            self.names.declare(word.text, kind)
        else:
            self.note("name", word)

    def use(self, word, wanted):
        """The kind that a name has or gives, which must stand for one of what is wanted."""
        found, kind = self.names.look_up(word.text)
        if found in wanted:
            return kind
        if found == "":
            self.note("name", word)
        else:
            self.note("kind", word)
        return UNKNOWN

    def begin(self, act):
        """Begin a block."""
        self.inside.append(act)
        self.names.enter()

    def look_at_row(self, row):
        if row.act in ("else", "end"):
            self.inside.pop()
            self.names.leave()
        if row.act in ("atomic", "sync", "out") and "atomic" in self.inside:
            self.note("atomic", row.first)
        if row.act == "let":
            self.look_at_let(row)
        elif row.act == "set":
            kind, _ = self.look_at_parts(row.place)
            self.want(kind, self.look_at_parts(row.value))
        elif row.act == "call":
            self.look_at_call(row)
        elif row.act in ("if", "while", "out"):
            self.want("word", self.look_at_parts(row.value))
        if row.act == "while" and int(row.most.text) > MOST_ROUNDS:
            self.note("size", row.most)
        if row.act in OPENING:
            self.begin(row.act)

    def look_at_let(self, row):
        kind, first = self.look_at_parts(row.value)
        if kind == "none":
            self.note("kind", first)
            kind = UNKNOWN
        self.declare(row.name, kind)

    def look_at_call(self, row):
        self.use(row.first, ("proc",))
        given = [self.look_at_parts(argument) for argument in row.arguments]
        found, _ = self.names.look_up(row.first.text)
        if found == "proc":
            self.look_at_called(row.first, given)

    def look_at_called(self, word, given):
        """Compare a call with the procedure that it names."""
        parameters = self.names.declared[word.text].parameters
        if len(parameters) != len(given) or self.calls.leads(word.text, self.current):
            self.note("call", word)
        if "atomic" in self.inside and self.calls.leads_to_mark(word.text):
            self.note("atomic", word)
        for parameter, one in zip(parameters, given):
            self.want(self.names.kind_of(parameter.kind), one)

    def want(self, wanted, given):
        """Note a fault unless what is given fits this kind."""
        kind, first = given
        if not fits(kind, wanted):
            self.note("kind", first)

    def look_at_parts(self, parts):
        """What an expression, a value or a place gives."""
        given = []
        for part in parts:
            if part.act in LEVELS:
                right = given.pop()
                left = given.pop()
                given.append(self.look_at_binary(part.act, left, right))
            elif part.act in ("number", "none", "name", "new"):
                given.append((self.look_at_beginning(part), part.word))
            else:
                given.append(self.look_at_unary(part, given.pop()))
        return given.pop()

    def look_at_beginning(self, part):
        """The kind of a part that takes nothing."""
        if part.act == "number":
            return "word"
        if part.act == "none":
            return "none"
        if part.act == "new":
            return self.use(part.word, ("table",))
        return self.use(part.word, ("var", "local"))

    def look_at_unary(self, part, operand):
        """What a part gives that takes one operand."""
        kind, first = operand
        if part.act == "first":
            return (kind, part.word)
        if part.act == "field":
            return (self.look_at_field(kind, part.word), first)
        self.want("word", operand)
        if part.act == "element":
            return (self.use(part.word, ("array",)), part.word)
        return ("word", part.word)

    def look_at_field(self, kind, word):
        """The kind of a field of what has this kind."""
        if kind == UNKNOWN:
            return UNKNOWN
        found = self.names.field_kind(kind, word.text)
        if found is None:
            self.note("kind", word)
            return UNKNOWN
        return found

    def look_at_binary(self, sign, left, right):
        """What an operator with two operands gives."""
        kind, first = left
        if sign not in ("==", "!="):
            self.want("word", left)
            self.want("word", right)
        elif not comparable(kind, right[0]):
            self.note("kind", right[1])
        return ("word", first)


def fits(kind, wanted):
    """Whether what has a kind may stand where another one is wanted."""
    if UNKNOWN in (kind, wanted) or kind == wanted:
        return True
    return kind == "none" and wanted != "word"


def comparable(left, right):
    """Whether what has these kinds may stand beside `==` and `!=`."""
    return fits(left, right) or fits(right, left)
