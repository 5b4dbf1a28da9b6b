"""Where the variables, arrays and records of a program stand in its heap."""

from lastheap.errors import Faulty
from lastheap.judging import judge


class Sites:
    """The places of a program without faults.

    A kind is "word" or the name of a table.
    """

    def __init__(self, declarations):
        # For each place its name and its kind.
        self.labels = []
        self.kinds = []
        # The first place of each variable, array and table, by names.
        self.begins = {}
        self.sizes = {}
        self.fields = {}
        # The first places of variables, arrays and records, in order.
        self.heads = []
        for declaration in declarations:
            if declaration.act == "var":
                self.add_variable(declaration)
        # Behind the variables and arrays come the records.
        self.rooted = len(self.kinds)
        for declaration in declarations:
            if declaration.act == "table":
                self.add_table(declaration)

    def add_variable(self, variable):
        name = variable.name.text
        self.begins[name] = len(self.kinds)
        self.heads.append(len(self.kinds))
        if variable.size is None:
            self.add_place((name,), variable.kind)
            return
        self.sizes[name] = int(variable.size.text)
        for index in range(self.sizes[name]):
            self.add_place((name, index), variable.kind)

    def add_table(self, table):
        name = table.name.text
        self.begins[name] = len(self.kinds)
        self.sizes[name] = int(table.size.text)
        self.fields[name] = [field.name.text for field in table.fields]
        for number in range(self.sizes[name]):
            self.heads.append(len(self.kinds))
            for field in table.fields:
                self.add_place((name, number, field.name.text), field.kind)

    def add_place(self, label, kind):
        self.labels.append(label)
        self.kinds.append(kind.text)

    def places_of_record(self, table, number):
        many = len(self.fields[table])
        first = self.begins[table] + number * many
        return list(range(first, first + many))

    def reachable(self, heap, roots):
        """The first places, as the keys of a dict, of all records that are reachable.

        The roots are pairs (table, reference), beside the variables and arrays.
        """
        found = {}
        waiting = roots + self.references(heap, list(range(self.rooted)))
        while waiting:
            table, reference = waiting.pop()
            if reference != 0:
                places = self.places_of_record(table, reference - 1)
                if places[0] not in found:
                    found[places[0]] = True
                    waiting.extend(self.references(heap, places))
        return found

    def references(self, heap, places):
        """The references that stand at these places, as pairs (table, reference)."""
        return [(self.kinds[place], heap[place]) for place in places if self.kinds[place] != "word"]


def sites_of(program):
    """The sites of a program; raises Faulty."""
    fault = judge(program)
    if fault is not None:
        raise Faulty(fault)
    return Sites(program.declarations)
