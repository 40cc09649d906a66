"""Texts of programs by point 12.4, written apart from the package: what they tell, sign by sign."""

import re

from wholecommits.errors import BadProgram, BadText
from tests.tongue_rules import plain_expression, plain_name, place_due

NUMBER = "0|-?[1-9][0-9]{0,18}"
LEAF = re.compile(f"'(?P<key>[a-z]{{1,12}})'|(?P<num>{NUMBER})|(?P<name>[a-z]+)")
SIGN = re.compile(r" (\+|-|\*|/|mod|<|=|and|or) ")


class Bad(Exception):
    pass


def expect(line, at, word):
    if not line.startswith(word, at):
        raise Bad
    return at + len(word)


def read_expression(line, at, left=60):
    """The expression at a place and the place behind it; how many levels are left keeps it from going too deep."""
    if left == 0:
        raise Bad
    if line.startswith("(not ", at):
        inner, at = read_expression(line, at + 5, left - 1)
        return ("not", inner), expect(line, at, ")")
    if line.startswith("(", at):
        one, at = read_expression(line, at + 1, left - 1)
        sign = SIGN.match(line, at)
        if sign is None:
            raise Bad
        other, at = read_expression(line, sign.end(), left - 1)
        return (sign[1], one, other), expect(line, at, ")")
    leaf = LEAF.match(line, at)
    if leaf is None:
        raise Bad
    kind = leaf.lastgroup
    return (kind, int(leaf[0]) if kind == "num" else leaf[kind]), leaf.end()


def whole_expression(line, at):
    expression, behind = read_expression(line, at)
    if not plain_expression(expression):
        raise Bad
    return expression, behind


def read_name(line, at):
    found = re.compile("[a-z]*").match(line, at)
    if not plain_name(found[0]):
        raise Bad
    return found[0], found.end()


FORMS = {"let": ["let ", read_name, " ", whole_expression], "get": ["get ", read_name, " ", whole_expression],
         "put": ["put ", whole_expression, " ", whole_expression], "drop": ["drop ", whole_expression],
         "for": ["for ", read_name, " ", read_name, " ", whole_expression, " ", whole_expression, " do"],
         "if": ["if ", whole_expression, " do"], "say": ["say ", whole_expression], "fail": ["fail"]}


def read_line(line):
    """The word of a line and the parts that it tells; Bad is raised for one without a form."""
    if line in ("else", "end"):
        return line, []
    found = re.fullmatch(f"while (.*) most ({NUMBER}) do", line, re.DOTALL)
    if found:
        looked, behind = whole_expression(found[1], 0)
        if behind != len(found[1]):
            raise Bad
        return "while", [looked, int(found[2])]
    word = line.split(" ")[0]
    if word not in FORMS:
        raise Bad
    at = 0
    parts = []
    for step in FORMS[word]:
        if isinstance(step, str):
            at = expect(line, at, step)
        else:
            part, at = step(line, at)
            parts.append(part)
    if at != len(line):
        raise Bad
    return word, parts


def read_due(text):
    """What reading a text is to give: the block of a program, or the class of the error and its field."""
    *lines, rest = text.split("\n")
    # Each level is the row of statements so far, and for a block of a statement what is needed to finish it.
    levels = [[[], None, None]]
    for at, line in enumerate(lines):
        try:
            word, parts = read_line(line)
            if word in ("for", "while", "if"):
                levels.append([[], (word, *parts), None])
            elif word == "else":
                block, head, first = levels[-1]
                if head is None or head[0] != "if" or first is not None:
                    raise Bad
                levels[-1] = [[], head, tuple(block)]
            elif word == "end":
                if len(levels) == 1:
                    raise Bad
                block, head, first = levels.pop()
                blocks = [tuple(block)] if first is None else [first, tuple(block)]
                inner = [*blocks, ()][:2] if head[0] == "if" else blocks
                levels[-1][0].append((*head, *inner))
            else:
                levels[-1][0].append((word, *parts))
        except Bad:
            return BadText, at + 1
    if rest or len(levels) > 1:
        return BadText, len(lines) + 1
    block = tuple(levels[0][0])
    place = place_due(block)
    return block if place is None else (BadProgram, place)


def expression_due(expression):
    kind, *parts = expression
    if kind == "key":
        return "'" + parts[0] + "'"
    if kind in ("num", "name"):
        return str(parts[0])
    if kind == "not":
        return "(not " + expression_due(parts[0]) + ")"
    return "(" + expression_due(parts[0]) + " " + kind + " " + expression_due(parts[1]) + ")"


def lines_due(block):
    """The list of the lines of a block."""
    lines = []
    for statement in block:
        word, *parts = statement
        if word == "fail":
            lines.append("fail")
        elif word in ("let", "get"):
            lines.append(word + " " + parts[0] + " " + expression_due(parts[1]))
        elif word in ("put", "drop", "say"):
            lines.append(" ".join([word] + [expression_due(part) for part in parts]))
        elif word == "for":
            lines.append("for " + parts[0] + " " + parts[1] + " " + expression_due(parts[2]) + " "
                         + expression_due(parts[3]) + " do")
            lines += lines_due(parts[4]) + ["end"]
        elif word == "while":
            lines.append("while " + expression_due(parts[0]) + " most " + str(parts[1]) + " do")
            lines += lines_due(parts[2]) + ["end"]
        else:
            lines.append("if " + expression_due(parts[0]) + " do")
            lines += lines_due(parts[1])
            if parts[2]:
                lines += ["else"] + lines_due(parts[2])
            lines.append("end")
    return lines


def text_due(block):
    return "".join(line + "\n" for line in lines_due(block))
