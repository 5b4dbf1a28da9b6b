"""Where the calls of procedures lead."""

MARKS = ("atomic", "sync", "out")


class Calls:
    """For each procedure of a first scope all that it leads to, itself included."""

    def __init__(self, declared):
        called = {}
        self.marked = {}
        for name in declared:
            if declared[name].act == "proc":
                called[name] = called_names(declared[name].rows)
                self.marked[name] = has_mark(declared[name].rows)
        self.reached = {name: reached_from(name, called) for name in called}

    def leads(self, name, other):
        return other in self.reached[name]

    def leads_to_mark(self, name):
        """Whether the procedure has, or leads to, what may not stand inside of `atomic`."""
        for other in self.reached[name]:
            if self.marked[other]:
                return True
        return False


def called_names(rows):
    return [row.first.text for row in rows if row.act == "call"]


def has_mark(rows):
    for row in rows:
        if row.act in MARKS:
            return True
    return False


def reached_from(name, called):
    """The procedures to which this one leads, as the keys of a dict."""
    reached = {name: True}
    waiting = [name]
    while waiting:
        now = waiting.pop()
        for other in called[now]:
            if other in called and other not in reached:
                reached[other] = True
                waiting.append(other)
    return reached
