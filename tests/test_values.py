import itertools
import random
import unittest

from wholecommits.running import Hand, plain_run
from wholecommits.tongue import Program
from tests.tongue_rules import SIGNS, Wrong, reckon

BOUND = 10 ** 18
VALUES = [None, "a", "ab", "b", "z" * 12, 0, 1, -1, 2, -2, 3, -3, 7, -7, 10 ** 9, -10 ** 9, 10 ** 9 + 1, BOUND, -BOUND,
          BOUND - 1, 1 - BOUND]
NOTHING = ("name", "q")


def leaf(value):
    if value is None:
        return NOTHING
    return ("key", value) if isinstance(value, str) else ("num", value)


class Values(unittest.TestCase):

    def value(self, expression):
        """The value of an expression; "wrong" where it is wrong, () standing for nothing."""
        word, said, _ = plain_run(Program((("say", expression),)), {})
        if word == "wrong":
            self.assertEqual((said, Hand(Program((("say", expression),))).asks()), ((), ("wrong", (0,))))
            return "wrong"
        self.assertEqual((word, len(said)), ("over", 1))
        self.assertIn(type(said[0]), (int, str, type(None)))
        return said

    def due(self, expression):
        try:
            return (reckon(expression, {}),)
        except Wrong:
            return "wrong"

    def test_each_sign_over_values_of_all_kinds(self):
        wrong = 0
        for sign in SIGNS:
            for left, right in itertools.product(VALUES, VALUES):
                expression = (sign, leaf(left), leaf(right))
                self.assertEqual(self.value(expression), self.due(expression), expression)
                wrong += self.due(expression) == "wrong"
        for value in VALUES:
            self.assertEqual(self.value(("not", leaf(value))), self.due(("not", leaf(value))))
            self.assertEqual(self.value(leaf(value)), (value,))
        self.assertGreater(wrong, 1000)

    def test_some_by_hand(self):
        def num(k):
            return ("num", k)
        for expression, value in (
                (("/", num(-7), num(2)), -4), (("/", num(7), num(-2)), -4), (("mod", num(-7), num(2)), 1),
                (("mod", num(7), num(-2)), -1), (("mod", num(7), num(-7)), 0), (("/", num(BOUND), num(-1)), -BOUND),
                (("-", num(0), num(BOUND)), -BOUND), (("+", num(BOUND - 1), num(1)), BOUND),
                (("<", num(1), num(1)), 0), (("<", ("key", "a"), ("key", "ab")), 1),
                (("<", ("key", "b"), ("key", "ab")), 0),
                (("=", NOTHING, NOTHING), 1), (("=", NOTHING, num(0)), 0), (("=", ("key", "a"), ("key", "a")), 1),
                (("=", ("key", "a"), num(0)), 0), (("and", num(-5), num(2)), 1), (("and", num(0), num(2)), 0),
                (("or", num(0), num(0)), 0), (("or", num(0), num(-3)), 1), (("not", num(-3)), 0), (("not", num(0)), 1),
                (("*", num(10 ** 9), num(-10 ** 9)), -BOUND)):
            self.assertEqual(self.value(expression), (value,), expression)
        for expression in (
                ("/", num(1), num(0)), ("mod", num(0), num(0)), ("+", num(BOUND), num(1)), ("-", num(-BOUND), num(1)),
                ("*", num(10 ** 9), num(10 ** 9 + 1)), ("<", ("key", "a"), num(1)), ("<", NOTHING, NOTHING),
                ("and", num(0), NOTHING), ("or", num(1), ("key", "a")), ("not", NOTHING), ("not", ("key", "a")),
                ("and", num(0), ("/", num(1), num(0))), ("or", num(1), ("mod", num(1), num(0))),
                ("=", ("/", num(1), num(0)), ("/", num(1), num(0))), ("-", ("+", num(BOUND), num(1)), num(1)),
                ("+", ("key", "a"), ("key", "b")), ("*", NOTHING, num(0))):
            self.assertEqual(self.value(expression), "wrong", expression)

    def test_drawn_expressions(self):
        def drawn(draw, deep):
            if deep == 1 or draw.random() < 0.2:
                return leaf(draw.choice(VALUES if draw.random() < 0.3 else [0, 1, 2, 5, -3, 10 ** 9]))
            if draw.random() < 0.15:
                return ("not", drawn(draw, deep - 1))
            return (draw.choice(SIGNS), drawn(draw, deep - 1), drawn(draw, deep - 1))
        right = 0
        for seed in range(4000):
            draw = random.Random(seed)
            expression = drawn(draw, draw.randrange(2, 6))
            self.assertEqual(self.value(expression), self.due(expression), expression)
            right += self.due(expression) != "wrong"
        self.assertGreater(right, 1000)

    def test_names_hold_what_they_were_given_last(self):
        program = Program((("say", ("name", "x")), ("let", "x", ("num", 3)), ("say", ("name", "x")),
                           ("let", "x", ("+", ("name", "x"), ("name", "x"))), ("say", ("name", "x")),
                           ("get", "x", ("key", "k")), ("say", ("name", "x")), ("let", "y", ("name", "x")),
                           ("let", "x", ("key", "k")), ("get", "x", ("name", "x")), ("say", ("name", "y")),
                           ("let", "y", NOTHING), ("say", ("=", ("name", "y"), NOTHING))))
        self.assertEqual(plain_run(program, {}), ("over", (None, 3, 6, None, None, 1), {}))
        self.assertEqual(plain_run(program, {"k": 9}), ("over", (None, 3, 6, 9, 9, 1), {"k": 9}))


if __name__ == "__main__":
    unittest.main()
