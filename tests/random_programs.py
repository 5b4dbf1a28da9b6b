"""Random programs, made together with their meaning: a second reading of [9] to [13].

Each piece of a program is made as its words and, at once, as a function that does it in a
World. The words keep no trace of the tree: operands always stand in parentheses.
"""

import random

MOST = 2 ** 60
STEPS = 5000


class Stopped(Exception):
    def __init__(self, reason, word):
        super().__init__(reason)
        self.reason = reason
        self.word = word


class Text:
    """A word of the program; its place is known when all are put together."""

    def __init__(self, text):
        self.text = text
        self.place = None


class World:
    """A heap by the names of its places, and the scopes of all procedures that are done."""

    def __init__(self, shape, heap):
        self.shape = shape
        self.heap = dict(zip(shape.labels, heap))
        self.frames = []
        self.events = []
        self.steps = 0
        self.atomic = False

    def step(self, word):
        self.steps += 1
        if self.steps > STEPS:
            raise Stopped("steps", word)

    def scope_of(self, name):
        return next(scope for scope in self.frames[-1] if name in scope)

    def read(self, place):
        return self.scope_of(place)[place][1] if isinstance(place, str) else self.heap[place]

    def write(self, place, word):
        if isinstance(place, str):
            scope = self.scope_of(place)
            scope[place] = (scope[place][0], word)
        else:
            self.block(lambda: self.heap.update({place: word}))

    def block(self, action):
        if self.atomic:
            action()
            return
        before = dict(self.heap)
        action()
        changes = tuple(
            (index, before[label], self.heap[label])
            for index, label in enumerate(self.shape.labels) if before[label] != self.heap[label]
        )
        if changes:
            self.events.append(("block", changes))

    def reachable(self):
        found = {(kind, word) for label, kind in self.shape.kinds.items() if len(label) < 3
                 for word in [self.heap[label]]}
        found |= {pair for frame in self.frames for scope in frame for pair in scope.values()}
        while True:
            more = {
                (kind, self.heap[label]) for label, kind in self.shape.kinds.items()
                if len(label) == 3 and (label[0], label[1] + 1) in found
            }
            if more <= found:
                return found
            found |= more

    def new(self, table, word):
        found = self.reachable()
        for number in range(self.shape.tables[table][0]):
            if (table, number + 1) not in found:
                empty = {label: 0 for label in self.shape.labels if label[:2] == (table, number) and len(label) == 3}
                self.block(lambda: self.heap.update(empty))
                return number + 1
        raise Stopped("full", word)


class Shape:
    """Tables by name as (size, fields), and variables as (name, size or None, kind)."""

    def __init__(self, chance):
        names = ["ta", "tb"][:chance.randint(0, 2)]
        kinds = ["word"] + names * 2
        self.tables = {
            name: (chance.randint(1, 3), [(f"f{n}", chance.choice(kinds)) for n in range(chance.randint(1, 3))])
            for name in names
        }
        self.variables = [
            (f"v{n}", chance.choice([None, None, 1, 2, 3]), chance.choice(kinds)) for n in range(chance.randint(0, 5))
        ]
        self.kinds = {}
        for name, size, kind in self.variables:
            self.kinds.update({(name,): kind} if size is None else {(name, at): kind for at in range(size)})
        for name, (size, fields) in self.tables.items():
            self.kinds.update({(name, at, field): kind for at in range(size) for field, kind in fields})
        self.labels = list(self.kinds)

    def heap(self, chance):
        """A random heap."""
        words = (0, 0, 1, 2, 3, -1, 5, MOST, -MOST)
        return [
            chance.choice(words) if self.kinds[label] == "word" else chance.randint(0, self.tables[self.kinds[label]][0])
            for label in self.labels
        ]


def big(result, word):
    if not -MOST <= result <= MOST:
        raise Stopped("large", word)
    return result


def quotient(left, right, word):
    if right == 0:
        raise Stopped("divide", word)
    whole = abs(left) // abs(right)
    if (left < 0) != (right < 0):
        whole = -whole - (1 if abs(left) % abs(right) else 0)
    return whole


SIGNS = {
    "or": lambda a, b, w: 1 if a or b else 0, "and": lambda a, b, w: 1 if a and b else 0,
    "<": lambda a, b, w: 1 if a < b else 0, "<=": lambda a, b, w: 0 if a > b else 1,
    ">": lambda a, b, w: 1 if b < a else 0, ">=": lambda a, b, w: 0 if b > a else 1,
    "==": lambda a, b, w: 1 if a == b else 0, "!=": lambda a, b, w: 0 if a == b else 1,
    "+": lambda a, b, w: big(a + b, w), "-": lambda a, b, w: big(a - b, w), "*": lambda a, b, w: big(a * b, w),
    "/": lambda a, b, w: big(quotient(a, b, w), w), "mod": lambda a, b, w: a - b * quotient(a, b, w),
}


class Maker:
    def __init__(self, seed):
        self.chance = random.Random(seed)
        self.shape = Shape(self.chance)
        self.words = []
        self.scopes = []
        self.procedures = []
        self.inside = False
        self.marked = False

    def put(self, *texts):
        for text in texts:
            self.words.append(Text(text))
        return self.words[-1]

    def often(self, share):
        return self.chance.random() < share

    # Expressions: each function puts words and returns a function of a world.

    def roots(self, kind):
        found = [("local", name) for scope in self.scopes for name, held in scope.items() if held == kind]
        found += [("var", name) for name, size, held in self.shape.variables if size is None and held == kind]
        found += [("array", (name, size)) for name, size, held in self.shape.variables if size and held == kind]
        return found

    def place(self, kind, depth, stored=False):
        """A place of this kind, or None if there is none; the function gives a name or label."""
        choices = self.roots(kind)
        if depth > 0:
            choices += [
                ("field", (table, field)) for table, (_, fields) in self.shape.tables.items()
                for field, held in fields if held == kind and self.roots(table)
            ] * 2
        if not choices:
            return None
        act, what = self.chance.choice(choices)
        if act == "field":
            table, field = what
            before = self.place(table, depth - 1) or self.place(table, 0)
            self.put(".")
            word = self.put(field)
            return lambda world: (table, self.record(world, before, word), field)
        if act == "array":
            return self.element(what, depth)
        self.put(what)
        return (lambda world: what) if act == "local" else (lambda world: (what,))

    @staticmethod
    def record(world, place, word):
        reference = world.read(place(world))
        if reference == 0:
            raise Stopped("none", word)
        return reference - 1

    def element(self, what, depth):
        name, size = what
        array = self.put(name)
        self.put("[")
        if self.often(0.8):
            number = self.chance.choice([0, size - 1, self.chance.randint(0, size)])
            self.put(str(number))
            index = lambda world: number
        else:
            index = self.value("word", depth - 1)
        self.put("]")

        def label(world):
            at = index(world)
            if not 0 <= at < size:
                raise Stopped("index", array)
            return (name, at)

        return label

    def value(self, kind, depth):
        """An expression of this kind."""
        if kind == "word" and depth > 0 and self.often(0.6):
            return self.operation(depth)
        if self.often(0.75):
            found = self.place(kind, depth)
            if found is not None:
                return lambda world: world.read(found(world))
        if kind != "word":
            self.put("none")
            return lambda world: 0
        number = self.chance.choice([0, 1, 2, 3, 7, 10 ** 18 - 1])
        self.put(str(number))
        return lambda world: number

    def operand(self, kind, depth):
        self.put("(")
        found = self.value(kind, depth)
        self.put(")")
        return found

    def operation(self, depth):
        act = self.chance.choice(list(SIGNS) + ["minus", "not"])
        if act == "minus":
            self.put("-")
            inner = self.operand("word", depth - 1)
            return lambda world: -inner(world)
        if act == "not":
            self.put("not")
            inner = self.operand("word", depth - 1)
            return lambda world: 0 if inner(world) else 1
        kind = self.chance.choice(["word"] + list(self.shape.tables)) if act in ("==", "!=") else "word"
        left = self.operand(kind, depth - 1)
        word = self.put(act)
        right = self.operand(kind, depth - 1)
        work = SIGNS[act]

        def operate(world):
            first = left(world)
            second = right(world)
            return work(first, second, word)

        return operate

    def stored_value(self, kind):
        if kind != "word" and self.often(0.5):
            self.put("new")
            word = self.put(kind)
            return lambda world: world.new(kind, word)
        return self.value(kind, 2)

    # Statements: each function puts words and returns a function that does it in a world.

    def body(self, many, depth, names=None):
        self.put("{")
        self.scopes.append(dict(names or {}))
        rows = [self.statement(depth) for _ in range(many)]
        self.scopes.pop()
        self.put("}")

        def do(world, given=None):
            world.frames[-1].append(dict(given or {}))
            for row in rows:
                row(world)
            world.frames[-1].pop()

        return do

    def statement(self, depth):
        choices = ["let", "let", "set", "set", "set", "set", "call", "call"]
        if not self.inside:
            choices += ["sync", "out", "out"]
        if depth > 0:
            choices += ["if", "if", "while", "while"] + ["atomic"] * (not self.inside)
        first = len(self.words)
        action = getattr(self, "make_" + self.chance.choice(choices))(depth)
        if action is None:
            self.put("if", "0", "{", "}")
            action = lambda world: None
        word = self.words[first]

        def do(world):
            world.step(word)
            action(world)

        return do

    def make_let(self, depth):
        used = {name for scope in self.scopes for name in scope}
        free = [name for name in ("a", "b", "c", "d", "e") if name not in used]
        if not free:
            return None
        name = self.chance.choice(free)
        kinds = ["word"] + [table for table in self.shape.tables if self.roots(table)] + list(self.shape.tables)
        kind = self.chance.choice(kinds)
        self.put("let", name, "=")
        if kind == "word":
            value = self.value(kind, 2)
        else:
            place = self.place(kind, 1) if self.often(0.5) else None
            if place is not None:
                value = lambda world: world.read(place(world))
            else:
                self.put("new")
                word = self.put(kind)
                value = lambda world: world.new(kind, word)
        self.put(";")
        self.scopes[-1][name] = kind

        def do(world):
            world.frames[-1][-1][name] = (kind, value(world))

        return do

    def make_set(self, depth):
        kind = self.chance.choice(["word"] + list(self.shape.tables) * 2)
        place = self.place(kind, 2)
        if place is None:
            return None
        self.put("=")
        value = self.stored_value(kind)
        self.put(";")

        def do(world):
            found = place(world)
            world.write(found, value(world))

        return do

    def make_call(self, depth):
        choices = [one for one in self.procedures if not (self.inside and one["marked"])]
        if not choices:
            return None
        one = self.chance.choice(choices)
        self.marked = self.marked or one["marked"]
        self.put(one["name"], "(")
        values = []
        for index, (_, kind) in enumerate(one["parameters"]):
            if index:
                self.put(",")
            values.append(self.value(kind, 2))
        self.put(")", ";")

        def do(world):
            given = [value(world) for value in values]
            enter(world, one, given)

        return do

    def make_if(self, depth):
        self.put("if")
        test = self.value("word", 2)
        then = self.body(self.chance.randint(0, 3), depth - 1)
        other = None
        if self.often(0.5):
            self.put("else")
            other = self.body(self.chance.randint(0, 3), depth - 1)

        def do(world):
            if test(world) != 0:
                then(world)
            elif other is not None:
                other(world)

        return do

    def make_while(self, depth):
        word = self.put("while")
        test = self.value("word", 2)
        most = self.chance.choice([0, 1, 2, 3, 5, 40, 1000])
        self.put("max", str(most))
        rows = self.body(self.chance.randint(0, 4), depth - 1)

        def do(world):
            rounds = 0
            while test(world) != 0:
                if rounds == most:
                    raise Stopped("rounds", word)
                rounds += 1
                rows(world)
                world.step(word)

        return do

    def make_atomic(self, depth):
        self.put("atomic")
        self.inside = self.marked = True
        rows = self.body(self.chance.randint(0, 4), depth - 1)
        self.inside = False

        def do(world):
            def action():
                world.atomic = True
                rows(world)
                world.atomic = False

            world.block(action)

        return do

    def make_sync(self, depth):
        self.put("sync", ";")
        self.marked = True
        return lambda world: world.events.append(("sync",))

    def make_out(self, depth):
        self.put("out")
        value = self.value("word", 3)
        self.put(";")
        self.marked = True
        return lambda world: world.events.append(("out", value(world)))

    # Whole programs.

    def procedure(self, name, kinds):
        """A procedure, or `main`; returns its words."""
        self.words = []
        self.marked = False
        parameters = [(f"p{n}", self.chance.choice(kinds)) for n in range(self.chance.randint(0, 3))]
        if name != "main":
            self.put("proc")
        self.put(name, "(")
        for index, (parameter, kind) in enumerate(parameters):
            if index:
                self.put(",")
            self.put(parameter, ":", kind)
        self.put(")")
        rows = self.body(self.chance.randint(1, 7), 3, dict(parameters))
        self.procedures.append({"name": name, "parameters": parameters, "rows": rows, "marked": self.marked})
        return self.words

    def program(self):
        """The text; sets the places of all words, and self.procedures[-1] is `main`."""
        pieces = []
        for name, (size, fields) in self.shape.tables.items():
            listed = ", ".join(f"{field}: {kind}" for field, kind in fields)
            pieces.append([Text(f"table {name} {size} {{ {listed} }}")])
        for name, size, kind in self.shape.variables:
            index = "" if size is None else f"[{size}]"
            pieces.append([Text(f"var {name}{index}: {kind};")])
        kinds = ["word"] + list(self.shape.tables)
        for number in range(self.chance.randint(0, 4)):
            piece = self.procedure(f"q{number}", kinds)
            pieces.insert(self.chance.randint(0, len(pieces)), piece)
        pieces.append(self.procedure("main", ["word"]))
        text = ""
        for word in [word for piece in pieces for word in piece]:
            text += self.chance.choice(["", "\n", "  "])
            word.place = (text.count("\n") + 1, len(text) - text.rfind("\n"))
            text += word.text + " "
        return text


def enter(world, one, given):
    held = {name: (kind, word) for (name, kind), word in zip(one["parameters"], given)}
    world.frames.append([])
    one["rows"](world, held)
    world.frames.pop()


def meaning(maker, heap, arguments):
    """The events and the stop, as tuples, of the program that was made."""
    world = World(maker.shape, heap)
    stop = None
    try:
        enter(world, maker.procedures[-1], arguments)
    except Stopped as stopped:
        stop = (stopped.reason, *stopped.word.place)
    return world.events, stop
