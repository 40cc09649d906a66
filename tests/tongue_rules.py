"""The tongue by points 12.1 to 12.4, written apart from the package: which blocks are programs, what running one asks,
and drawn programs."""

import re

from tests.things import plain_integer, plain_key

RESERVED = set("let get put drop for in to do if else while most end say fail mod and or not".split())
SIGNS = ["+", "-", "*", "/", "mod", "<", "=", "and", "or"]
BOUND = 10 ** 18


def plain_name(thing):
    return type(thing) is str and re.fullmatch("[a-z]{1,8}", thing) is not None and thing not in RESERVED


def size_of(thing):
    """How deep an expression is and how many parts it has; None for what is none, whatever its size."""
    if type(thing) is not tuple or len(thing) not in (2, 3) or type(thing[0]) is not str:
        return None
    if thing[0] in ("num", "key", "name"):
        judge = {"num": lambda k: plain_integer(k, -BOUND, BOUND), "key": plain_key, "name": plain_name}[thing[0]]
        return (1, 1) if len(thing) == 2 and judge(thing[1]) else None
    if not (len(thing) == 2 and thing[0] == "not" or len(thing) == 3 and thing[0] in SIGNS):
        return None
    inner = [size_of(part) for part in thing[1:]]
    if None in inner:
        return None
    return 1 + max(deep for deep, _ in inner), 1 + sum(parts for _, parts in inner)


def plain_expression(thing):
    size = size_of(thing)
    return size is not None and size[0] <= 8 and size[1] <= 40


FORMS = {"let": "ne", "get": "ne", "put": "ee", "drop": "e", "for": "nneeb", "if": "ebb", "while": "emb", "say": "e",
         "fail": ""}
JUDGES = {"n": plain_name, "e": plain_expression, "b": lambda thing: type(thing) is tuple,
          "m": lambda thing: plain_integer(thing, 1, 100)}


def inner_blocks(statement):
    """The pairs of a number and a block of a statement of which the own parts are right."""
    form = FORMS[statement[0]]
    return list(enumerate(part for kind, part in zip(form, statement[1:]) if kind == "b"))


def wrong_places(block, deep=1):
    """All places of statements that are none, those within such ones left out."""
    for index, statement in enumerate(block):
        right = (type(statement) is tuple and len(statement) > 0 and type(statement[0]) is str
                 and statement[0] in FORMS and len(statement) == 1 + len(FORMS[statement[0]])
                 and all(JUDGES[kind](part) for kind, part in zip(FORMS[statement[0]], statement[1:])))
        if not right or (inner_blocks(statement) and deep == 5):
            yield (index,)
        else:
            for which, inner in inner_blocks(statement):
                for place in wrong_places(inner, deep + 1):
                    yield (index, which, *place)


def count_of(block):
    return sum(1 + sum(count_of(inner) for _, inner in inner_blocks(statement)) for statement in block)


def place_due(thing):
    """The place that BadProgram is to tell, None for a block of a program."""
    if type(thing) is not tuple:
        return ()
    places = list(wrong_places(thing))
    if places:
        return min(places)
    return () if count_of(thing) > 80 else None


# what running asks


class End(Exception):
    def __init__(self, *told):
        self.told = told


class Wrong(Exception):
    pass


def reckon(expression, names):
    """The value of an expression; Wrong is raised if it has none."""
    kind, parts = expression[0], expression[1:]
    if kind == "name":
        return names.get(parts[0])
    if kind in ("num", "key"):
        return parts[0]
    values = [reckon(part, names) for part in parts]
    if kind == "=":
        return 1 if (type(values[0]), values[0]) == (type(values[1]), values[1]) else 0
    kinds = [type(value) for value in values]
    if kind == "<" and kinds == [str, str]:
        return 1 if min(values) == values[0] and values[0] != values[1] else 0
    if any(one is not int for one in kinds):
        raise Wrong
    try:
        value = {
            "+": lambda a, b: a + b, "-": lambda a, b: a - b, "*": lambda a, b: a * b,
            "/": lambda a, b: divmod(a, b)[0], "mod": lambda a, b: divmod(a, b)[1],
            "<": lambda a, b: 1 if a < b else 0, "and": lambda a, b: 1 if a and b else 0,
            "or": lambda a, b: 1 if a or b else 0, "not": lambda a: 0 if a else 1,
        }[kind](*values)
    except ZeroDivisionError:
        raise Wrong from None
    if abs(value) > BOUND:
        raise Wrong
    return value


class Plain:
    """A program under way: running is a generator of asks, to which the answers are sent."""

    def __init__(self, program):
        self.names = {}
        self.said = []
        self.count = 0
        self.main = self.whole(program.block)
        self.ask = next(self.main)

    def whole(self, block):
        try:
            yield from self.block(block, ())
        except End as end:
            yield end.told
        yield ("over",)

    def one_more(self):
        self.count += 1
        if self.count > 5000:
            raise End("long")

    def give(self, answer):
        self.ask = self.main.send(answer)

    def block(self, block, path):
        for index, statement in enumerate(block):
            self.one_more()
            place = (*path, index)
            try:
                yield from self.statement(statement, place)
            except Wrong:
                raise End("wrong", place) from None

    def value(self, expression, judge=lambda value: True):
        value = reckon(expression, self.names)
        if not judge(value):
            raise Wrong
        return value

    def statement(self, statement, place):
        word, parts = statement[0], statement[1:]
        if word == "fail":
            raise End("failed")
        if word == "say":
            self.said.append(self.value(parts[0]))
        if word == "let":
            self.names[parts[0]] = self.value(parts[1])
        if word == "get":
            self.names[parts[0]] = yield ("get", self.value(parts[1], plain_key))
        if word == "put":
            yield ("put", self.value(parts[0], plain_key), self.value(parts[1], lambda value: type(value) is int))
        if word == "drop":
            yield ("drop", self.value(parts[0], plain_key))
        if word == "if":
            which = 0 if self.value(parts[0], lambda value: type(value) is int) != 0 else 1
            yield from self.block(parts[1 + which], (*place, which))
        if word == "for":
            pairs = yield ("range", self.value(parts[2], plain_key), self.value(parts[3], plain_key))
            for key, worth in list(pairs):
                self.one_more()
                self.names[parts[0]] = key
                self.names[parts[1]] = worth
                yield from self.block(parts[4], (*place, 0))
        if word == "while":
            for done in range(parts[1]):
                if done > 0:
                    self.one_more()
                if self.value(parts[0], lambda value: type(value) is int) == 0:
                    break
                yield from self.block(parts[2], (*place, 0))


def is_end(ask):
    return ask[0] in ("over", "failed", "wrong", "long")


def answer_due(ask, state):
    """What a plain dict, which changes, answers to an ask."""
    if ask[0] == "get":
        return state.get(ask[1])
    if ask[0] == "range":
        return tuple(sorted(pair for pair in state.items() if ask[1] <= pair[0] <= ask[2]))
    if ask[0] == "put":
        state[ask[1]] = ask[2]
    else:
        state.pop(ask[1], None)
    return None


def run_due(program, state):
    """The triple that plain_run is to tell, and the tuple of the pairs of asks and answers."""
    plain = Plain(program)
    behind = dict(state)
    told = []
    while not is_end(plain.ask):
        ask = plain.ask
        answer = answer_due(ask, behind)
        told.append((ask, answer))
        plain.give(answer)
    word = plain.ask[0]
    return (word, tuple(plain.said), behind if word == "over" else dict(state)), tuple(told)


# drawn programs

NAMES = ["a", "n", "x", "abcdefgh"]
KEYS = ["a", "b", "ba", "c", "z" * 12]
NUMBERS = [0, 1, 2, -1, 5, -7, BOUND, -BOUND, 10 ** 9]


def drawn_expression(draw, deep, kind):
    """An expression that is likely to tell an integer, or a key, by kind."""
    odd = draw.random()
    if kind == "key" and odd < 0.9:
        return ("key", draw.choice(KEYS)) if draw.random() < 0.8 else ("name", draw.choice(NAMES))
    if deep == 1 or odd < 0.35:
        if draw.random() < 0.05:
            return ("key", draw.choice(KEYS))
        return ("name", draw.choice(NAMES)) if draw.random() < 0.5 else ("num", draw.choice(NUMBERS))
    if odd < 0.45:
        return ("not", drawn_expression(draw, deep - 1, kind))
    sign = draw.choice(SIGNS)
    inner = draw.choice([kind, kind, "key"]) if sign in ("=", "<") else kind
    return (sign, drawn_expression(draw, deep - 1, inner), drawn_expression(draw, deep - 1, inner))


def drawn_block(draw, deep, most):
    """A block of a few statements, at most so many levels deep."""
    return tuple(drawn_statement(draw, deep) for _ in range(draw.randrange(most + 1)))


def drawn_statement(draw, deep):
    word = draw.choice("let let let get get put put drop say for if while".split() if deep > 1
                       else "let let get put drop say".split())
    if draw.random() < 0.02:
        return ("fail",)
    size = draw.choice([1, 2, 3])
    name = draw.choice(NAMES)
    if word in ("let", "get"):
        return (word, name, drawn_expression(draw, size, "key" if word == "get" else "integer"))
    if word == "put":
        return (word, drawn_expression(draw, 1, "key"), drawn_expression(draw, size, "integer"))
    if word == "drop":
        return (word, drawn_expression(draw, 1, "key"))
    if word == "say":
        return (word, drawn_expression(draw, size, draw.choice(["key", "integer"])))
    if word == "for":
        return (word, name, draw.choice(NAMES), drawn_expression(draw, 1, "key"), drawn_expression(draw, 1, "key"),
                drawn_block(draw, deep - 1, 3))
    if word == "if":
        return (word, drawn_expression(draw, size, "integer"), drawn_block(draw, deep - 1, 3),
                drawn_block(draw, deep - 1, 2))
    looked = ("num", 1) if draw.random() < 0.3 else drawn_expression(draw, size, "integer")
    return (word, looked, draw.choice([1, 2, 3, 100]), drawn_block(draw, deep - 1, 3))


def drawn_program_block(draw, most=8):
    """A block that a program can have."""
    while True:
        block = drawn_block(draw, draw.randrange(1, 6), most)
        if draw.random() < 0.8:
            block = tuple(("let", name, ("num", draw.choice([0, 1, 3]))) for name in NAMES) + block
        if draw.random() < 0.1:
            block = (("while", ("num", 1), 100, (("while", ("num", 1), 100, block),)),)
        if place_due(block) is None:
            return block
