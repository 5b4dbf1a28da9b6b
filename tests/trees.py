"""Independent readers of single expressions, to compare trees and blanks."""

import re

WORD = re.compile("[a-z0-9_]+|==|!=|<=|>=|[^ ]")
COMPARISONS = ("==", "!=", "<", "<=", ">", ">=")
BINARY = ("or", "and", *COMPARISONS, "+", "-", "*", "/", "mod")


class NoTree(Exception):
    pass


def tree(text):
    """The expression as nested tuples; parentheses leave no trace."""
    words = WORD.findall(text)
    found = either(words)
    if words:
        raise NoTree(text)
    return found


def leftward(words, signs, deeper):
    found = deeper(words)
    while words and words[0] in signs:
        sign = words.pop(0)
        found = (sign, found, deeper(words))
    return found


def either(words):
    return leftward(words, ("or",), both)


def both(words):
    return leftward(words, ("and",), negation)


def negation(words):
    if words and words[0] == "not":
        words.pop(0)
        return ("not", negation(words))
    return comparison(words)


def comparison(words):
    left = total(words)
    if words and words[0] in COMPARISONS:
        sign = words.pop(0)
        return (sign, left, total(words))
    return left


def total(words):
    return leftward(words, ("+", "-"), product)


def product(words):
    return leftward(words, ("*", "/", "mod"), factor)


def factor(words):
    if words and words[0] == "-":
        words.pop(0)
        return ("neg", factor(words))
    return tight(words)


def tight(words):
    word = words.pop(0) if words else ""
    if word == "(":
        found = either(words)
        taken(words, ")")
        return found
    if re.fullmatch("[0-9]+", word) or word == "none":
        return word
    if not re.fullmatch("[a-z][a-z0-9_]*", word) or word in ("or", "and", "not", "mod"):
        raise NoTree(word)
    found = word
    if words and words[0] == "[":
        words.pop(0)
        found = ("[]", word, either(words))
        taken(words, "]")
    while words and words[0] == ".":
        words.pop(0)
        found = (".", found, words.pop(0))
    return found


def taken(words, wanted):
    if not words or words.pop(0) != wanted:
        raise NoTree(wanted)


def bracketed(found):
    """A text of the tree with parentheses around everything."""
    if isinstance(found, str):
        return "(" + found + ")"
    if found[0] == "[]":
        return "(" + found[1] + "[" + bracketed(found[2]) + "])"
    if found[0] == ".":
        return bracketed(found[1])[:-1] + "." + found[2] + ")"
    if found[0] == "neg":
        return "(-" + bracketed(found[1]) + ")"
    if found[0] == "not":
        return "(not" + bracketed(found[1]) + ")"
    return "(" + bracketed(found[1]) + found[0] + bracketed(found[2]) + ")"


def spaced(text):
    """The same words with just the blanks of the fixed form."""
    out = ""
    operand = False
    for word in WORD.findall(text):
        if word in BINARY and operand:
            out += " " + word + " "
            operand = False
        elif word == "not":
            out += "not "
        else:
            out += word
            operand = word not in ("(", "[", "-", ".")
    return out


def without_each_pair(text):
    """The texts in which one pair of parentheses is left out."""
    stack = []
    for at, sign in enumerate(text):
        if sign == "(":
            stack.append(at)
        elif sign == ")":
            opening = stack.pop()
            yield text[:opening] + " " + text[opening + 1:at] + " " + text[at + 1:]
