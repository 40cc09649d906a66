import random
import unittest

from wholecommits.errors import BadProgram
from wholecommits.judges import Dealing
from wholecommits.tongue import Program
from tests.things import nested, things
from tests.tongue_rules import RESERVED, SIGNS, drawn_program_block, place_due, plain_expression, plain_name

BOUND = 10 ** 18
NUM = ("num", 1)
KEY = ("key", "a")
RIGHT = {
    "let": ("let", "x", NUM),
    "get": ("get", "x", KEY),
    "put": ("put", KEY, NUM),
    "drop": ("drop", KEY),
    "for": ("for", "k", "w", KEY, KEY, ()),
    "if": ("if", NUM, (), ()),
    "while": ("while", NUM, 3, ()),
    "say": ("say", NUM),
    "fail": ("fail",),
}


def deep_not(deep):
    return nested(deep - 1, lambda inner: ("not", inner), NUM)


def left_sum(parts):
    """An expression of so many parts, an odd number, as flat as can be."""
    row = [NUM] * ((parts + 1) // 2)
    while len(row) > 1:
        row = [("+", *row[at:at + 2]) if at + 1 < len(row) else row[at] for at in range(0, len(row), 2)]
    return row[0]


class Programs(unittest.TestCase):

    def check(self, thing):
        """Whether it is a program, as the test's own rules tell."""
        due = place_due(thing)
        if due is None:
            self.assertEqual(Program(thing).block, thing)
            return True
        with self.assertRaises(BadProgram) as caught:
            Program(thing)
        self.assertEqual(caught.exception.place, due)
        self.assertIs(type(caught.exception.place), tuple)
        return False

    def test_each_form(self):
        for statement in RIGHT.values():
            self.assertTrue(self.check((statement,)))
        self.assertTrue(self.check(()))
        self.assertTrue(self.check(tuple(RIGHT.values())))
        self.assertEqual(vars(Program(())), {"block": ()})

    def test_each_part_wrong(self):
        wrong = 0
        for statement in RIGHT.values():
            for at in range(len(statement)):
                for thing in [*things(), *RESERVED, *SIGNS, NUM, KEY, ("name", "x"), ("num", True), ("fail",)]:
                    spoilt = (*statement[:at], thing, *statement[at + 1:])
                    for block, place in (((spoilt,), (0,)), ((RIGHT["say"], spoilt, RIGHT["fail"]), (1,)),
                                         ((RIGHT["say"], ("if", NUM, (), (spoilt,))), (1, 1, 0))):
                        if not self.check(block):
                            wrong += 1
                            self.assertEqual(place_due(block)[:len(place)], place)
        self.assertGreater(wrong, 6000)

    def test_parts_lacking_and_too_many(self):
        for statement in RIGHT.values():
            for spoilt in [statement[:at] + statement[at + 1:] for at in range(len(statement))] + [
                    (*statement, part) for part in (NUM, (), None, "x", statement)]:
                self.check((spoilt, RIGHT["say"]))
                self.check((RIGHT["fail"], ("while", NUM, 1, (RIGHT["say"], spoilt))))
            self.assertFalse(self.check((list(statement),)))
            self.assertFalse(self.check(((statement,),)))
            self.assertFalse(self.check(statement))

    def test_things_of_all_kinds(self):
        for thing in things():
            self.assertEqual(self.check(thing), thing in ((), (("fail",),)))
            self.assertEqual(self.check((thing,)), thing == ("fail",))
            self.assertFalse(self.check((RIGHT["let"], ("let", thing, thing))))

    def test_flags_are_no_numbers(self):
        for block in ((("let", "x", ("num", True)),), (("while", NUM, True, ()),), (("while", ("num", False), 1, ()),)):
            self.assertFalse(self.check(block))

    def test_numbers(self):
        for number, right in ((BOUND, True), (-BOUND, True), (BOUND + 1, False), (-BOUND - 1, False), (0, True)):
            self.assertIs(self.check((("say", ("num", number)),)), right)
        for most, right in ((0, False), (1, True), (100, True), (101, False), (-1, False), (None, False)):
            self.assertIs(self.check((("while", NUM, most, ()),)), right)

    def test_names_and_keys(self):
        for name in [*RESERVED, "lets", "a", "z" * 8, "z" * 9, "", "A", "a1", "a_b", "in", "inn", "num", "key", "name"]:
            right = plain_name(name)
            self.assertIs(self.check((("let", name, NUM),)), right)
            self.assertIs(self.check((("get", name, KEY),)), right)
            self.assertIs(self.check((("for", name, "w", KEY, KEY, ()),)), right)
            self.assertIs(self.check((("for", "k", name, KEY, KEY, ()),)), right)
            self.assertIs(self.check((("say", ("name", name)),)), right)
        for key, right in (("a" * 12, True), ("a" * 13, False), ("", False), ("let", True), ("A", False)):
            self.assertIs(self.check((("say", ("key", key)),)), right)

    def test_depth_of_expressions(self):
        for deep in range(1, 12):
            for statement in (("say", deep_not(deep)), ("let", "x", deep_not(deep)), ("put", KEY, deep_not(deep)),
                              ("say", ("+", NUM, deep_not(deep - 1)) if deep > 1 else NUM)):
                self.assertIs(self.check((statement,)), deep <= 8)

    def test_parts_of_expressions(self):
        for parts in range(1, 60, 2):
            self.assertEqual(plain_expression(left_sum(parts)), parts <= 40)
            self.assertIs(self.check((("say", left_sum(parts)),)), parts <= 40)
            self.assertIs(self.check((("say", ("not", left_sum(parts))),)), parts < 40)
        self.assertTrue(self.check((("put", left_sum(39), ("not", left_sum(39))), ("say", ("not", left_sum(39))))))

    def test_depth_of_blocks(self):
        def around(word):
            return {"for": lambda inner: (("for", "k", "w", KEY, KEY, inner),),
                    "if": lambda inner: (("if", NUM, inner, ()),),
                    "else": lambda inner: (("if", NUM, (), inner),),
                    "while": lambda inner: (("while", NUM, 1, inner),)}[word]
        for word in ("for", "if", "else", "while"):
            which = 1 if word == "else" else 0
            for deep in range(1, 9):
                block = nested(deep - 1, around(word), (RIGHT["say"],))
                self.assertIs(self.check(block), deep <= 5)
                if deep > 5:
                    self.assertEqual(place_due(block), (0, which) * 4 + (0,))
                self.assertIs(self.check(nested(deep - 1, around(word), ())), deep <= 5)
        five = nested(4, around("if"), (RIGHT["say"], ("while", NUM, 1, ()), ("let", "let", NUM)))
        self.assertFalse(self.check((RIGHT["say"], *five)))
        self.assertEqual(place_due(five), (0, 0, 0, 0, 0, 0, 0, 0, 1))

    def test_many_statements(self):
        for many in (79, 80, 81, 200, 4000):
            self.assertIs(self.check((RIGHT["say"],) * many), many <= 80)
            self.assertIs(self.check((("if", NUM, (RIGHT["say"],) * (many - 41), (RIGHT["fail"],) * 40),)), many <= 80)
        spread = (("for", "k", "w", KEY, KEY, (("while", NUM, 1, (RIGHT["say"],) * 77),)), RIGHT["fail"])
        self.assertTrue(self.check(spread))
        self.assertFalse(self.check((*spread, RIGHT["fail"])))

    def test_too_many_comes_behind_what_is_wrong(self):
        block = (RIGHT["say"],) * 90 + (("say",),)
        self.assertFalse(self.check(block))
        self.assertEqual(place_due(block), (90,))
        self.assertFalse(self.check([("say",)]))

    def test_the_first_of_several(self):
        inner = ("if", NUM, (RIGHT["say"], ("say", "x")), (("say", "y"),))
        for block, place in (((inner, ("say", "z")), (0, 0, 1)), ((("say", "z"), inner), (0,)),
                             ((("if", NUM, (), (("say", "y"),)), ("no",)), (0, 1, 0)),
                             ((("if", "x", (("say", "y"),), ()),), (0,)), ((("while", NUM, 0, (("no",),)),), (0,)),
                             ((RIGHT["say"], ("for", "k", "k", KEY, KEY, (RIGHT["say"], 5, 6)), 7), (1, 0, 1)),
                             ((("if", NUM, [], (5,)),), (0,)), ((("if", NUM, (5,), []),), (0,))):
            self.assertFalse(self.check(block))
            self.assertEqual(place_due(block), place)

    def test_drawn_blocks_spoilt(self):
        for seed in range(400):
            draw = random.Random(seed)
            block = drawn_program_block(draw)
            self.assertTrue(self.check(block))
            for _ in range(4):
                self.check(spoilt(draw, block))

    def test_equal(self):
        blocks = [(), (RIGHT["say"],), (RIGHT["say"], RIGHT["say"]), (("say", ("num", 2)),), (("say", KEY),),
                  (("if", NUM, (RIGHT["say"],), ()),), (("if", NUM, (), (RIGHT["say"],)),), (("while", NUM, 1, ()),),
                  (("while", NUM, 2, ()),), (("say", ("name", "a")),)]
        for one in range(len(blocks)):
            for other in range(len(blocks)):
                self.assertIs(Program(blocks[one]) == Program(tuple(list(blocks[other]))), one == other)
                self.assertIs(Program(blocks[one]) != Program(blocks[other]), one != other)
        for thing in [*things(), (), Dealing(0, None, (), (), ())]:
            equal = type(thing) is Program
            self.assertIs(Program(()) == thing, equal)
            self.assertIs(thing == Program(()), equal)


def spoilt(draw, block):
    """A block in which one thing somewhere within is another one."""
    if not block or draw.random() < 0.2:
        return draw.choice([(*block, draw.choice([5, (), ("say",), ("no", NUM)])), list(block), block[:-1]])
    at = draw.randrange(len(block))
    inner = block[at]
    if isinstance(inner, tuple) and draw.random() < 0.8:
        inner = spoilt(draw, inner)
    else:
        inner = draw.choice([None, True, 101, "let", "x", (), NUM, KEY, ("num", BOUND + 1), 10 ** 19])
    return (*block[:at], inner, *block[at + 1:])


if __name__ == "__main__":
    unittest.main()
