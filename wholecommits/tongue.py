"""Programs of the tongue: blocks of statements of which each has been looked at."""

from wholecommits.errors import BadProgram
from wholecommits.expressions import is_expression, is_name
from wholecommits.kinds import is_within

DEEPEST_BLOCK = 5
MOST_STATEMENTS = 80
MOST_ROUNDS = 100
# What stands behind the word of a statement; the blocks stand last.
PARTS = {
    "let": ("name", "expression"),
    "get": ("name", "expression"),
    "put": ("expression", "expression"),
    "drop": ("expression",),
    "for": ("name", "name", "expression", "expression", "block"),
    "if": ("expression", "block", "block"),
    "while": ("expression", "most", "block"),
    "say": ("expression",),
    "fail": (),
}


class Program:
    """A block that is right throughout."""

    def __init__(self, block):
        if not isinstance(block, tuple):
            raise BadProgram(())
        wrong = first_wrong(block, (), 1)
        if wrong is not None:
            raise BadProgram(wrong)
        if many_statements(block) > MOST_STATEMENTS:
            raise BadProgram(())
        self.block = block

    def __eq__(self, other):
        return isinstance(other, Program) and self.block == other.block


def blocks_of(statement):
    """The blocks of a statement of which the own parts are right."""
    return statement[len(statement) - PARTS[statement[0]].count("block"):]


def is_part(kind, thing):
    """Whether it can be a part of this kind; what stands in a block is not looked at."""
    if kind == "name":
        return is_name(thing)
    if kind == "most":
        return is_within(1, MOST_ROUNDS, thing)
    if kind == "block":
        return isinstance(thing, tuple)
    return is_expression(thing)


def has_right_parts(thing):
    """Whether it is a statement, but for what stands in its blocks."""
    if not isinstance(thing, tuple) or not thing or not isinstance(thing[0], str) or thing[0] not in PARTS:
        return False
    kinds = PARTS[thing[0]]
    if len(thing) != 1 + len(kinds):
        return False
    return all([is_part(kind, part) for kind, part in zip(kinds, thing[1:])])


def first_wrong(block, path, deep):
    """The place of the first statement that is none in a block, so deep, on this path; None if all are right."""
    for index, statement in enumerate(block):
        place = (*path, index)
        if not has_right_parts(statement):
            return place
        inner = blocks_of(statement)
        if inner and deep == DEEPEST_BLOCK:
            return place
        for which, part in enumerate(inner):
            wrong = first_wrong(part, (*place, which), deep + 1)
            if wrong is not None:
                return wrong
    return None


def many_statements(block):
    """How many statements stand in a block, those within others counted, too."""
    return len(block) + sum([many_statements(part) for statement in block for part in blocks_of(statement)])
