"""What a program does, made ready to be done: names are places, and blocks know their ends."""

from lastheap.names import Names
from lastheap.parts import LEVELS, OPENING

# What closes a block, by what opens it; the body of a procedure is opened by nothing.
CLOSING = {"if": "end", "else": "end", "while": "again", "atomic": "close"}


class Order:
    """What is done at one row of a body.

    The act is that of the row, but
    - "keep" makes or changes a parameter or local, and "store" changes a place of the heap;
    - a row that closes is "end" (nothing is done), "again" (a round of a `while` is over),
      "close" (an `atomic` is over) or "return".
    `word` is the row's first word. An order that opens a block has in `partner` the index of
    the order that closes it, and one that only closes a block the index of the other.
    """

    def __init__(self, act, word):
        self.act = act
        self.word = word
        # The name of a local, or of the procedure that is called.
        self.name = ""
        # Steps: of the place, of the value, and of each argument.
        self.place = ()
        self.value = ()
        self.arguments = ()
        # The names and tables of the references among the locals, while a call is being done.
        self.held = ()
        self.most = 0
        self.partner = 0


class OrderMaker:
    """Turns the bodies of a program without faults into orders.

    An expression becomes a tuple of steps (act, operand, word); each takes its operands from
    what the steps before it gave, and gives a word or the number of a place:
    - "number", "local" and "heap" give their operand, or the word of this local or place;
    - "element" takes an index; its operand is the array's first place and size;
    - "field" takes a reference; its operand is the first place of the table's first record,
      the number of its fields, and the index of this field;
    - "read" takes a place and gives its word;
    - "new" gives a record; its operand is the table, and what a call has as `held`;
    - "minus", "not", or an operator with two operands by its sign.
    """

    def __init__(self, program, sites):
        self.names = Names(program.declarations)
        self.sites = sites

    def orders_of(self, procedure):
        """The orders of a procedure's body."""
        self.names.enter()
        for parameter in procedure.parameters:
            self.names.declare(parameter.name.text, parameter.kind.text)
        orders = []
        opened = []
        for row in procedure.rows:
            order = self.order_of(row)
            if row.act in ("else", "end"):
                self.names.leave()
                close_block(orders, opened, order)
            if row.act in OPENING:
                self.names.enter()
                opened.append(len(orders))
            orders.append(order)
        return orders

    def order_of(self, row):
        order = Order(row.act, row.first)
        if row.act == "let":
            self.fill_let(order, row)
        elif row.act == "set":
            self.fill_set(order, row)
        elif row.act == "call":
            order.name = row.first.text
            order.arguments = [self.read_steps(argument) for argument in row.arguments]
            order.held = self.held_here()
        elif row.act in ("if", "while", "out"):
            order.value = self.read_steps(row.value)
        if row.act == "while":
            order.most = int(row.most.text)
        return order

    def fill_let(self, order, row):
        order.act = "keep"
        order.name = row.name.text
        order.value, kind = self.steps_of(row.value)
        self.names.declare(row.name.text, kind)

    def fill_set(self, order, row):
        order.value = self.read_steps(row.value)
        steps, _ = self.steps_of(row.place)
        act, operand, _ = steps[-1]
        if act == "local":
            order.act = "keep"
            order.name = operand
        else:
            order.act = "store"
            order.place = place_steps(steps)

    def held_here(self):
        """The names and tables of the references among the locals that can be used here."""
        return [(name, kind) for block in self.names.blocks for name, kind in block.items() if kind != "word"]

    def read_steps(self, parts):
        steps, _ = self.steps_of(parts)
        return steps

    def steps_of(self, parts):
        """The steps of an expression or value, and its kind."""
        steps = []
        kinds = []
        for part in parts:
            if part.act in LEVELS:
                kinds.pop()
                kinds[-1] = "word"
                steps.append((part.act, None, part.word))
            elif part.act in ("minus", "not"):
                steps.append((part.act, None, part.word))
            elif part.act in ("element", "field"):
                kinds[-1] = self.add_deeper(steps, part, kinds[-1])
            elif part.act != "first":
                kinds.append(self.add_beginning(steps, part))
        return (steps, kinds.pop())

    def add_beginning(self, steps, part):
        """Add the step of a part that takes nothing; returns the kind that it gives."""
        if part.act == "number":
            steps.append(("number", int(part.word.text), part.word))
            return "word"
        if part.act == "none":
            steps.append(("number", 0, part.word))
            return "none"
        name = part.word.text
        if part.act == "new":
            steps.append(("new", (name, self.held_here()), part.word))
            return name
        found, kind = self.names.look_up(name)
        if found == "local":
            steps.append(("local", name, part.word))
        else:
            steps.append(("heap", self.sites.begins[name], part.word))
        return kind

    def add_deeper(self, steps, part, kind):
        """Add the steps of an element or field; returns the kind that they give."""
        name = part.word.text
        if part.act == "element":
            operand = (self.sites.begins[name], self.sites.sizes[name])
            _, given = self.names.look_up(name)
        else:
            fields = self.sites.fields[kind]
            operand = (self.sites.begins[kind], len(fields), fields.index(name))
            given = self.names.field_kind(kind, name)
        steps.append((part.act, operand, part.word))
        steps.append(("read", None, part.word))
        return given


def close_block(orders, opened, order):
    """Let this order close the block that was opened last, or else the body."""
    if not opened:
        order.act = "return"
        return
    opening = opened.pop()
    orders[opening].partner = len(orders)
    order.partner = opening
    if order.act == "end":
        order.act = CLOSING[orders[opening].act]


def place_steps(steps):
    """The steps that give a place, from those that read it."""
    act, operand, word = steps[-1]
    if act == "heap":
        return [("number", operand, word)]
    return steps[:-1]
