"""Doing the orders of a program on a heap."""

from lastheap.errors import HeapError
from lastheap.heaps import LARGEST
from lastheap.orders import OrderMaker

MOST_STEPS = 5000
STATEMENTS = ("keep", "store", "call", "if", "while", "atomic", "sync", "out")


class Halted(HeapError):
    """The run stops, for this reason and at this word of the text."""

    def __init__(self, reason, word):
        self.reason = reason
        self.word = word

    def told(self):
        return "refused halted"


class Frame:
    """A procedure that is being done."""

    def __init__(self, orders, local):
        self.orders = orders
        # The index of the next order.
        self.at = 0
        # The words of the parameters and locals by names, also those that cannot be used now.
        self.local = local
        # The names and tables of the references among those that can be used now.
        self.held = ()
        # For each `while`, by the index of its end, the number of rounds that were begun.
        self.rounds = {}


class Machine:
    """A run of a program: its heap, and the events so far as pairs (act, what it tells)."""

    def __init__(self, program, sites, heap, arguments):
        self.sites = sites
        self.heap = list(heap)
        # By the names of procedures, `main` too: the names of their parameters, and their orders.
        self.parameters = {}
        self.orders = {}
        maker = OrderMaker(program, sites)
        for declaration in program.declarations:
            if declaration.act == "proc":
                self.add_procedure(maker, declaration)
        self.add_procedure(maker, program.main)
        self.events = []
        self.steps = 0
        # The words before the block by places, as far as they were stored to.
        self.before = {}
        self.atomic = False
        self.frames = []
        self.enter("main", arguments)

    def add_procedure(self, maker, procedure):
        name = procedure.name.text
        self.parameters[name] = [parameter.name.text for parameter in procedure.parameters]
        self.orders[name] = maker.orders_of(procedure)

    def enter(self, name, given):
        """Begin a procedure."""
        local = {}
        for parameter, word in zip(self.parameters[name], given):
            local[parameter] = word
        self.frames.append(Frame(self.orders[name], local))

    def go_on(self):
        """Do the orders up to the end of `main`; raises Halted."""
        while self.frames:
            frame = self.frames[-1]
            order = frame.orders[frame.at]
            frame.at += 1
            if order.act in STATEMENTS:
                self.count_step(order)
            action = ACTIONS[order.act]
            action(self, frame, order)

    def count_step(self, order):
        self.steps += 1
        if self.steps > MOST_STEPS:
            raise Halted("steps", order.word)

    def write(self, place, word):
        if place not in self.before:
            self.before[place] = self.heap[place]
        self.heap[place] = word

    def end_block(self):
        """End a block, unless it is a part of one that goes on."""
        if self.atomic:
            return
        changes = [
            (place, self.before[place], self.heap[place])
            for place in sorted(self.before)
            if self.before[place] != self.heap[place]
        ]
        self.before = {}
        if changes:
            self.events.append(("block", changes))

    def take_record(self, frame, table, held, word):
        """The reference to a record that nothing refers to, with empty fields."""
        frame.held = held
        roots = []
        for waiting in self.frames:
            roots.extend([(kind, waiting.local[name]) for name, kind in waiting.held])
        found = self.sites.reachable(self.heap, roots)
        for number in range(self.sites.sizes[table]):
            places = self.sites.places_of_record(table, number)
            if places[0] not in found:
                for place in places:
                    self.write(place, 0)
                self.end_block()
                return number + 1
        raise Halted("full", word)

    def work_out(self, frame, steps):
        """What the steps of an expression, a value or a place give."""
        given = []
        for act, operand, word in steps:
            if act == "local":
                given.append(frame.local[operand])
            elif act == "number":
                given.append(operand)
            elif act == "heap":
                given.append(self.heap[operand])
            elif act in OPERATORS:
                right = given.pop()
                operation = OPERATORS[act]
                result = operation(given.pop(), right, word)
                if not -LARGEST <= result <= LARGEST:
                    raise Halted("large", word)
                given.append(result)
            elif act == "new":
                table, held = operand
                given.append(self.take_record(frame, table, held, word))
            else:
                given.append(self.go_deeper(act, operand, word, given.pop()))
        return given.pop()

    def go_deeper(self, act, operand, word, given):
        """What a step gives that takes one operand."""
        if act == "read":
            return self.heap[given]
        if act == "minus":
            return -given
        if act == "not":
            return int(given == 0)
        if act == "element":
            return place_of_element(operand, given, word)
        return place_of_field(operand, given, word)


def place_of_element(operand, index, word):
    first, size = operand
    if not 0 <= index < size:
        raise Halted("index", word)
    return first + index


def place_of_field(operand, reference, word):
    first, many, field = operand
    if reference == 0:
        raise Halted("none", word)
    return first + (reference - 1) * many + field


def either(left, right, word):
    return int(left != 0 or right != 0)


def both(left, right, word):
    return int(left != 0 and right != 0)


def equal(left, right, word):
    return int(left == right)


def different(left, right, word):
    return int(left != right)


def less(left, right, word):
    return int(left < right)


def less_or_equal(left, right, word):
    return int(left <= right)


def greater(left, right, word):
    return int(left > right)


def greater_or_equal(left, right, word):
    return int(left >= right)


def plus(left, right, word):
    return left + right


def minus(left, right, word):
    return left - right


def times(left, right, word):
    return left * right


def divided(left, right, word):
    if right == 0:
        raise Halted("divide", word)
    return left // right


def remainder(left, right, word):
    return left - right * divided(left, right, word)


OPERATORS = {
    "or": either, "and": both,
    "==": equal, "!=": different, "<": less, "<=": less_or_equal, ">": greater, ">=": greater_or_equal,
    "+": plus, "-": minus, "*": times, "/": divided, "mod": remainder,
}


def keep(machine, frame, order):
    frame.local[order.name] = machine.work_out(frame, order.value)


def store(machine, frame, order):
    place = machine.work_out(frame, order.place)
    machine.write(place, machine.work_out(frame, order.value))
    machine.end_block()


def call(machine, frame, order):
    frame.held = order.held
    machine.enter(order.name, [machine.work_out(frame, argument) for argument in order.arguments])


def leave(machine, frame, order):
    machine.frames.pop()


def choose(machine, frame, order):
    if machine.work_out(frame, order.value) == 0:
        frame.at = order.partner + 1


def skip(machine, frame, order):
    frame.at = order.partner


def begin_rounds(machine, frame, order):
    frame.rounds[order.partner] = 0
    test_round(machine, frame, order)


def test_again(machine, frame, order):
    opening = frame.orders[order.partner]
    machine.count_step(opening)
    test_round(machine, frame, opening)


def test_round(machine, frame, order):
    """Begin one more round of a `while`, or go on behind it."""
    frame.at = order.partner + 1
    if machine.work_out(frame, order.value) != 0:
        if frame.rounds[order.partner] == order.most:
            raise Halted("rounds", order.word)
        frame.rounds[order.partner] += 1
        frame.at = frame.orders[order.partner].partner + 1


def begin_atomic(machine, frame, order):
    machine.atomic = True


def end_atomic(machine, frame, order):
    machine.atomic = False
    machine.end_block()


def tell_sync(machine, frame, order):
    machine.events.append(("sync", None))


def tell_out(machine, frame, order):
    machine.events.append(("out", machine.work_out(frame, order.value)))


def go_past(machine, frame, order):
    """There is nothing to do where the block of an `if` ends."""


ACTIONS = {
    "keep": keep, "store": store, "call": call, "return": leave,
    "if": choose, "else": skip, "end": go_past,
    "while": begin_rounds, "again": test_again,
    "atomic": begin_atomic, "close": end_atomic,
    "sync": tell_sync, "out": tell_out,
}
