"""Expressions of the tongue: which there are, and what their values are.

A value is an integer up to 10 ** 18 either way, a key, or None for nothing.
"""

from wholecommits.kinds import is_integer, is_key, is_tuple, is_word, is_worth

LONGEST_NAME = 8
DEEPEST = 8
MOST_PARTS = 40
SIGNS = ("+", "-", "*", "/", "mod", "<", "=", "and", "or")
RESERVED = ("let", "get", "put", "drop", "for", "in", "to", "do", "if", "else", "while", "most", "end", "say", "fail",
            "mod", "and", "or", "not")
# No value is a tuple, so this one stands for what has none.
WRONG = ("wrong",)


def is_name(thing):
    """Whether it is a name."""
    return is_word(thing) and 1 <= len(thing) <= LONGEST_NAME and thing not in RESERVED


def is_leaf(thing):
    """Whether it is an expression without others in it."""
    if not is_tuple(2, thing):
        return False
    if thing[0] == "num":
        return is_worth(thing[1])
    if thing[0] == "key":
        return is_key(thing[1])
    return thing[0] == "name" and is_name(thing[1])


def part_count(deepest, thing):
    """How many parts an expression of at most so many levels has, 0 if it is none."""
    if deepest == 0:
        return 0
    if is_leaf(thing):
        return 1
    if not (is_tuple(2, thing) and thing[0] == "not") and not (is_tuple(3, thing) and thing[0] in SIGNS):
        return 0
    many = [part_count(deepest - 1, part) for part in thing[1:]]
    return 0 if 0 in many else 1 + sum(many)


def is_expression(thing):
    """Whether it is an expression."""
    return 1 <= part_count(DEEPEST, thing) <= MOST_PARTS


def value_of(expression, names):
    """The value of an expression while the names hold what a dict tells, WRONG if it is wrong."""
    kind = expression[0]
    if kind == "name":
        return names.get(expression[1])
    if kind in ("num", "key"):
        return expression[1]
    values = [value_of(part, names) for part in expression[1:]]
    if WRONG in values:
        return WRONG
    if kind == "not":
        return int(values[0] == 0) if is_integer(values[0]) else WRONG
    return reckoned(kind, values[0], values[1])


def reckoned(sign, left, right):
    """What a sign makes of two values, WRONG if it may not be reckoned."""
    if sign == "=":
        return int(left == right)
    if sign == "<" and is_key(left) and is_key(right):
        return int(left < right)
    if not is_integer(left) or not is_integer(right):
        return WRONG
    if sign in ("/", "mod") and right == 0:
        return WRONG
    value = reckoned_integers(sign, left, right)
    return value if is_worth(value) else WRONG


def reckoned_integers(sign, left, right):
    """What a sign makes of two integers, the right one not being 0 where it divides."""
    if sign == "+":
        return left + right
    if sign == "-":
        return left - right
    if sign == "*":
        return left * right
    if sign == "/":
        return left // right
    if sign == "mod":
        return left % right
    if sign == "<":
        return int(left < right)
    if sign == "and":
        return int(left != 0 and right != 0)
    return int(left != 0 or right != 0)
