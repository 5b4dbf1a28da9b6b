"""The fixed form of a program's text."""

from lastheap.parts import BRACKET, COMPARISON, LEVELS, MINUS, NOT, OPENING, TIGHT

INDENT = "    "


def program_text(program):
    """The text of a program in the fixed form."""
    lines = []
    for declaration in program.declarations:
        lines.extend(declaration_lines(declaration))
    lines.append(f"main({list_text(program.main.parameters)}) " + "{")
    lines.extend(body_lines(program.main.rows))
    return "\n".join(lines)


def declaration_lines(declaration):
    name = declaration.name.text
    if declaration.act == "table":
        fields = list_text(declaration.fields)
        return [f"table {name} {declaration.size.text} " + "{ " + fields + " }"]
    if declaration.act == "var":
        if declaration.size is not None:
            name = f"{name}[{declaration.size.text}]"
        return [f"var {name}: {declaration.kind.text};"]
    head = f"proc {name}({list_text(declaration.parameters)}) " + "{"
    return [head] + body_lines(declaration.rows)


def list_text(fields):
    """The text of fields or parameters."""
    return ", ".join([f"{field.name.text}: {field.kind.text}" for field in fields])


def body_lines(rows):
    lines = []
    depth = 1
    for at, row in enumerate(rows):
        if row.act in ("else", "end"):
            depth -= 1
        if not (row.act == "else" and rows[at + 1].act == "end"):
            lines.append(INDENT * depth + row_text(row))
        if row.act in OPENING:
            depth += 1
    return lines


def row_text(row):
    if row.act == "let":
        return f"let {row.name.text} = {parts_text(row.value)};"
    if row.act == "set":
        return f"{parts_text(row.place)} = {parts_text(row.value)};"
    if row.act == "call":
        arguments = ", ".join([parts_text(argument) for argument in row.arguments])
        return f"{row.first.text}({arguments});"
    if row.act == "if":
        return f"if {parts_text(row.value)} " + "{"
    if row.act == "else":
        return "} else {"
    if row.act == "while":
        return f"while {parts_text(row.value)} max {row.most.text} " + "{"
    if row.act == "atomic":
        return "atomic {"
    if row.act == "sync":
        return "sync;"
    if row.act == "out":
        return f"out {parts_text(row.value)};"
    return "}"


def parts_text(parts):
    """The text of an expression, a value or a place."""
    # The operands that are not used yet, as (text, level of its loosest operator).
    given = []
    for part in parts:
        if part.act in LEVELS:
            right = given.pop()
            left = given.pop()
            given.append((binary_text(part.act, left, right), LEVELS[part.act]))
        elif part.act in ("number", "none", "name"):
            given.append((part.word.text, TIGHT))
        elif part.act == "new":
            given.append((f"new {part.word.text}", BRACKET))
        elif part.act != "first":
            given.append(unary(part, given.pop()))
    text, _ = given.pop()
    return text


def unary(part, operand):
    """The operand's text with this part, and its level."""
    text, _ = operand
    if part.act == "element":
        return (f"{part.word.text}[{text}]", TIGHT)
    if part.act == "field":
        return (f"{text}.{part.word.text}", TIGHT)
    if part.act == "minus":
        return ("-" + within(operand, MINUS), MINUS)
    return ("not " + within(operand, NOT), NOT)


def binary_text(sign, left, right):
    level = LEVELS[sign]
    least = level
    # All these operators go to the left, except the comparisons, which stand alone.
    if level == COMPARISON:
        least = level + 1
    return f"{within(left, least)} {sign} {within(right, level + 1)}"


def within(operand, least):
    """The operand's text where only this level or a tighter one may stand."""
    text, level = operand
    if level < least:
        return f"({text})"
    return text
