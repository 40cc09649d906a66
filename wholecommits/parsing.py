"""Programs as texts: a line for each statement, the lines of its blocks behind it.

A line is read word by word, brackets being words of their own: as one blank stands between two words and none within
brackets' ends, a line can be told from its words, and the other way round.
"""

from wholecommits.errors import BadText
from wholecommits.expressions import DEEPEST, is_expression, is_name
from wholecommits.figures import integer_told
from wholecommits.tongue import PARTS, Program, blocks_of

MOST_FIGURES = 19
# What stands behind the first word of a line.
LINES = {
    "let": ("name", "expression"),
    "get": ("name", "expression"),
    "put": ("expression", "expression"),
    "drop": ("expression",),
    "for": ("name", "name", "expression", "expression", "do"),
    "if": ("expression", "do"),
    "else": (),
    "while": ("expression", "most", "number", "do"),
    "end": (),
    "say": ("expression",),
    "fail": (),
}


class Opened:
    """A statement whose block is read: its word, its parts, and the lists of what was read of its blocks."""

    def __init__(self, word, parts):
        self.word = word
        self.parts = parts
        self.blocks_read = [[]]

    def take(self, statement):
        """Take the next statement of the block that is read."""
        self.blocks_read[-1].append(statement)

    def can_have_else(self):
        """Whether it is an if whose other block has not begun."""
        return self.word == "if" and len(self.blocks_read) == 1

    def statement(self):
        """The statement whole, without an other block if none has begun."""
        blocks = [tuple(block) for block in self.blocks_read]
        if self.can_have_else():
            blocks.append(())
        return (self.word, *self.parts, *blocks)


def program_text(program):
    """The text of a program."""
    return "".join([line + "\n" for line in lines_of(program.block)])


def read_program(text):
    """The program that a text tells."""
    if not isinstance(text, str):
        raise BadText(0)
    lines = text.split("\n")
    # The first one is the program itself, which no line opens or ends.
    opened = [Opened("", ())]
    for index, line in enumerate(lines[:-1]):
        if not is_read(opened, words_of(line)):
            raise BadText(index + 1)
    if lines[-1] != "" or len(opened) > 1:
        raise BadText(len(lines))
    return Program(tuple(opened[0].blocks_read[0]))


def lines_of(block):
    """The list of the lines of a block."""
    lines = []
    for statement in block:
        blocks = blocks_of(statement)
        words = [statement[0], *part_texts(statement)]
        if blocks:
            words.append("do")
        lines.append(" ".join(words))
        for which, part in enumerate(blocks):
            if which == 1 and part:
                lines.append("else")
            lines.extend(lines_of(part))
        if blocks:
            lines.append("end")
    return lines


def part_texts(statement):
    """The list of the texts of a statement's parts but for its blocks."""
    texts = []
    for kind, part in zip(PARTS[statement[0]], statement[1:]):
        if kind == "name":
            texts.append(part)
        elif kind == "most":
            texts.append(f"most {part}")
        elif kind == "expression":
            texts.append(expression_text(part))
    return texts


def expression_text(expression):
    """The text of an expression."""
    kind = expression[0]
    if kind == "key":
        return f"'{expression[1]}'"
    if kind in ("num", "name"):
        return str(expression[1])
    if kind == "not":
        return f"(not {expression_text(expression[1])})"
    return f"({expression_text(expression[1])} {kind} {expression_text(expression[2])})"


def is_read(opened, words):
    """Whether the words of a line have a form that can stand there; what is open, and what it holds, changes then."""
    word = words[0]
    parts = parts_told(word, words[1:])
    if parts is None:
        return False
    if word == "else":
        if not opened[-1].can_have_else():
            return False
        opened[-1].blocks_read.append([])
    elif word == "end":
        if len(opened) == 1:
            return False
        whole = opened.pop().statement()
        opened[-1].take(whole)
    elif "do" in LINES[word]:
        opened.append(Opened(word, parts))
    else:
        opened[-1].take((word, *parts))
    return True


def words_of(line):
    """The list of the words of a line, brackets being words of their own."""
    words = []
    for piece in line.split(" "):
        inner = piece.lstrip("(")
        core = inner.rstrip(")")
        words.extend(["("] * (len(piece) - len(inner)))
        words.append(core)
        words.extend([")"] * (len(inner) - len(core)))
    return words


def parts_told(first, words):
    """The list of the parts that the words behind a line's first one tell, None if they have not the form."""
    if first not in LINES:
        return None
    parts = []
    at = 0
    for kind in LINES[first]:
        part, at = part_told(kind, words, at)
        if part is None:
            return None
        if kind not in ("do", "most"):
            parts.append(part)
    return parts if at == len(words) else None


def part_told(kind, words, at):
    """The pair of what the words from this place on tell, None if it is no part of this kind, and the place behind."""
    if kind == "expression":
        expression, behind = expression_told(words, at, DEEPEST)
        return expression if is_expression(expression) else None, behind
    word = words[at] if at < len(words) else ""
    if kind == "number":
        return integer_told(MOST_FIGURES, word), at + 1
    is_right = is_name(word) if kind == "name" else word == kind
    return word if is_right else None, at + 1


def expression_told(words, at, deepest):
    """The pair of what the words from this place on tell as an expression, and the place behind it.

    Only so many levels are read; where the words tell no expression, neither is what is returned one.
    """
    if deepest == 0 or at >= len(words):
        return None, at
    if words[at] != "(":
        return leaf_told(words[at]), at + 1
    if words[at + 1:at + 2] == ["not"]:
        inner, behind = expression_told(words, at + 2, deepest - 1)
        return closed(words, ("not", inner), behind)
    left, behind = expression_told(words, at + 1, deepest - 1)
    sign = words[behind] if behind < len(words) else ""
    right, end = expression_told(words, behind + 1, deepest - 1)
    return closed(words, (sign, left, right), end)


def closed(words, expression, behind):
    """The pair of an expression, None if no bracket closes it, and the place behind that."""
    if words[behind:behind + 1] != [")"]:
        return None, behind
    return expression, behind + 1


def leaf_told(word):
    """What a word tells as a number, a key or a name; whether it is one is not asked."""
    if word[:1] == "'" and word[-1:] == "'":
        return "key", word[1:-1]
    number = integer_told(MOST_FIGURES, word)
    return ("name", word) if number is None else ("num", number)
