"""What is declared in a program, and what can be used at the place that is looked at."""

# What has a kind with a fault: it fits wherever it stands. No table has this name.
UNKNOWN = ""


class Names:
    """The first scope of a program, and the parameters and locals that can be used.

    A kind is "word", "none", the name of a table, or UNKNOWN.
    """

    def __init__(self, declarations):
        self.declared = {}
        for declaration in declarations:
            if declaration.name.text not in self.declared:
                self.declared[declaration.name.text] = declaration
        # For each block that is not closed, from the outermost one, its kinds by names.
        self.blocks = []

    def enter(self):
        self.blocks.append({})

    def leave(self):
        self.blocks.pop()

    def declare(self, name, kind):
        """Make a parameter or local of the innermost block."""
        self.blocks[-1][name] = kind

    def look_up(self, name):
        """What a name stands for here, and the kind that it has or gives.

        That is one of "table", "proc", "var", "array", "local", or "" for nothing.
        """
        if name in self.declared:
            return self.look_up_declared(name)
        for block in self.blocks:
            if name in block:
                return ("local", block[name])
        return ("", UNKNOWN)

    def look_up_declared(self, name):
        declaration = self.declared[name]
        if declaration.act == "table":
            return ("table", name)
        if declaration.act == "proc":
            return ("proc", UNKNOWN)
        kind = self.kind_of(declaration.kind)
        if declaration.size is None:
            return ("var", kind)
        return ("array", kind)

    def kind_of(self, word):
        """The kind that this word tells; UNKNOWN if it is no kind."""
        if word.form == "word" or self.is_table(word.text):
            return word.text
        return UNKNOWN

    def is_table(self, name):
        return name in self.declared and self.declared[name].act == "table"

    def field_kind(self, table, name):
        """The kind of a field, or None if there is no such field."""
        if not self.is_table(table):
            return None
        for field in self.declared[table].fields:
            if field.name.text == name:
                return self.kind_of(field.kind)
        return None
