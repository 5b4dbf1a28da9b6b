"""An independent recognizer of the beginnings of programs, straight from the grammar.

It keeps the set of all stacks of symbols that may still be to come.
"""

import re

RULES = {
    "PROGRAM": ["DECLARATION PROGRAM", "main ( PARAMS ) BODY"],
    "DECLARATION": [
        "table name number { LIST }",
        "var name : KIND ;",
        "var name [ number ] : KIND ;",
        "proc name ( PARAMS ) BODY",
    ],
    "PARAMS": ["", "LIST"],
    "LIST": ["name : KIND", "name : KIND , LIST"],
    "KIND": ["word", "name"],
    "BODY": ["{ STATEMENTS }"],
    "STATEMENTS": ["", "STATEMENT STATEMENTS"],
    "STATEMENT": [
        "let name = VALUE ;",
        "PLACE = VALUE ;",
        "name ( ARGUMENTS ) ;",
        "if OR BODY ELSE",
        "while OR max number BODY",
        "atomic BODY",
        "sync ;",
        "out OR ;",
    ],
    "ELSE": ["", "else BODY"],
    "PLACE": ["name FIELDS", "name [ OR ] FIELDS"],
    "FIELDS": ["", ". name FIELDS"],
    "VALUE": ["OR", "new name"],
    "ARGUMENTS": ["", "OR MORE"],
    "MORE": ["", ", OR MORE"],
    "OR": ["AND OR_MORE"],
    "OR_MORE": ["", "or AND OR_MORE"],
    "AND": ["NOT AND_MORE"],
    "AND_MORE": ["", "and NOT AND_MORE"],
    "NOT": ["not NOT", "COMPARISON"],
    "COMPARISON": ["SUM SECOND"],
    "SECOND": ["", "== SUM", "!= SUM", "< SUM", "<= SUM", "> SUM", ">= SUM"],
    "SUM": ["PRODUCT SUM_MORE"],
    "SUM_MORE": ["", "+ PRODUCT SUM_MORE", "- PRODUCT SUM_MORE"],
    "PRODUCT": ["FACTOR PRODUCT_MORE"],
    "PRODUCT_MORE": [
        "", "* FACTOR PRODUCT_MORE", "/ FACTOR PRODUCT_MORE", "mod FACTOR PRODUCT_MORE",
    ],
    "FACTOR": ["- FACTOR", "number", "none", "PLACE", "( OR )"],
}
RESERVED = (
    "table var proc main let new none if else while max atomic sync out and or not mod word"
).split()
SIGNS = "{ } ( ) [ ] : ; , . = == != < <= > >= + - * /".split()


def opened(stack, seen):
    """All stacks that begin with a word (or are empty) to which this one can be opened."""
    if not stack or stack[0] not in RULES:
        seen.add(stack)
        return
    for rule in RULES[stack[0]]:
        opened(tuple(rule.split()) + stack[1:], seen)


def begun():
    """The stacks before the first word."""
    seen = set()
    opened(("PROGRAM",), seen)
    return seen


def after(stacks, form):
    """The stacks behind a word of this form; none if it cannot stand."""
    seen = set()
    for stack in stacks:
        if stack and stack[0] == form:
            opened(stack[1:], seen)
    return seen


def form_of(word):
    if word in RESERVED or word in SIGNS:
        return word
    if re.fullmatch("[a-z][a-z0-9_]{0,11}", word):
        return "name"
    if re.fullmatch("0|[1-9][0-9]{0,17}", word):
        return "number"
    return "bad"
