import random
import unittest

from wholecommits.errors import NoAnswer, NoState, NotAsked
from wholecommits.running import Hand, plain_run
from wholecommits.tongue import Program
from tests.things import plain_integer, plain_key, things
from tests.tongue_rules import KEYS, Plain, answer_due, drawn_program_block, is_end, run_due

BOUND = 10 ** 18
A = ("key", "a")
Z = ("key", "z")
ONE = ("num", 1)


def num(k):
    return ("num", k)


def name(word):
    return ("name", word)


def more(word, by=1):
    return ("let", word, ("+", name(word), num(by)))


def end_of(block, state=None):
    """How a program that runs alone ends."""
    hand = Hand(Program(block))
    state = dict(state or {})
    while not is_end(hand.asks()):
        hand.give(answer_due(hand.asks(), state))
    return hand.asks()


def drawn_state(draw):
    return {key: draw.choice([0, 1, -1, 4, BOUND, -BOUND]) for key in draw.sample(KEYS, draw.randrange(len(KEYS) + 1))}


def plain_answer(ask, thing):
    if ask[0] == "get":
        return thing is None or plain_integer(thing, -BOUND, BOUND)
    if ask[0] != "range":
        return True
    if type(thing) not in (list, tuple):
        return False
    for row in thing:
        if not (type(row) is tuple and len(row) == 2 and plain_key(row[0]) and ask[1] <= row[0] <= ask[2]
                and plain_integer(row[1], -BOUND, BOUND)):
            return False
    keys = [row[0] for row in thing]
    return keys == sorted(set(keys))


class Hands(unittest.TestCase):

    def test_drawn_programs_alone(self):
        words = {}
        for seed in range(3000):
            draw = random.Random(seed)
            program = Program(drawn_program_block(draw))
            state = drawn_state(draw)
            before = dict(state)
            due, told = run_due(program, state)
            self.assertEqual(plain_run(program, state), due)
            self.assertEqual(state, before)
            words[due[0]] = words.get(due[0], 0) + 1
            hand = Hand(program)
            rest = dict(state)
            asked = []
            while not is_end(hand.asks()):
                ask = hand.asks()
                asked.append((ask, answer_due(ask, rest)))
                self.assertIsNone(hand.give(asked[-1][1]))
            self.assertEqual((tuple(asked), hand.asks()[0], hand.said()), (told, due[0], due[1]))
        for word in ("over", "failed", "wrong", "long"):
            self.assertGreater(words[word], 5, words)

    def test_drawn_answers(self):
        """Answers of all kinds: those that are none change nothing, others lead on, as a plain hand is led."""
        refused = 0
        for seed in range(1500):
            draw = random.Random(seed)
            program = Program(drawn_program_block(draw))
            hand = Hand(program)
            plain = Plain(program)
            for _ in range(40):
                self.assertEqual((hand.asks(), hand.said()), (plain.ask, tuple(plain.said)))
                if is_end(plain.ask):
                    break
                answer = drawn_answer(draw, plain.ask)
                if plain_answer(plain.ask, answer):
                    hand.give(answer)
                    plain.give(answer)
                else:
                    refused += 1
                    self.assertRaises(NoAnswer, hand.give, answer)
        self.assertGreater(refused, 100)

    def test_places_of_wrong_ones(self):
        wrong = ("let", "x", ("/", ONE, num(0)))
        for block, place in (
                ((wrong,), (0,)), ((("say", ONE), wrong), (1,)), ((("if", ONE, (("say", ONE), wrong), ()),), (0, 0, 1)),
                ((("if", num(0), (), (wrong,)),), (0, 1, 0)), ((("while", ONE, 3, (wrong,)),), (0, 0, 0)),
                ((("say", ONE), ("for", "k", "w", A, Z, (("say", ONE), wrong))), (1, 0, 1)),
                ((("if", A, (), ()),), (0,)), ((("if", name("x"), (), ()),), (0,)), ((("while", A, 1, ()),), (0,)),
                ((("while", ("/", ONE, num(0)), 1, ()),), (0,)), ((("say", ("not", A)),), (0,)),
                ((("get", "x", ONE),), (0,)), ((("get", "x", name("x")),), (0,)), ((("drop", name("x")),), (0,)),
                ((("drop", num(0)),), (0,)), ((("put", ONE, ONE),), (0,)), ((("put", A, name("x")),), (0,)),
                ((("put", A, A),), (0,)), ((("put", name("x"), ONE),), (0,)), ((("for", "k", "w", A, ONE, ()),), (0,)),
                ((("for", "k", "w", name("x"), A, ()),), (0,)), ((("put", ("/", ONE, num(0)), ONE),), (0,)),
                ((("let", "x", ONE), ("say", ONE), ("while", name("x"), 5, (("say", ONE), ("let", "x", A)))), (2,)),
                ((("while", ONE, 2, (("while", ONE, 1, (("if", ONE, (), ()), ("drop", ONE))),)),), (0, 0, 0, 0, 1))):
            self.assertEqual(end_of(block, {"b": 1}), ("wrong", place), block)

    def test_ends(self):
        self.assertEqual(end_of(()), ("over",))
        self.assertEqual(end_of((("fail",),)), ("failed",))
        self.assertEqual(end_of((("if", num(0), (("fail",),), ()),)), ("over",))
        self.assertEqual(end_of((("if", num(-1), (("fail",),), ()),)), ("failed",))
        self.assertEqual(end_of((("let", "x", ("+", num(BOUND), ONE)),)), ("wrong", (0,)))

    def test_asks(self):
        hand = Hand(Program((("get", "n", A), ("put", ("key", "b"), ("+", name("n"), ONE)), ("drop", A),
                             ("for", "k", "w", A, Z, (("put", name("k"), ("*", name("w"), num(2))),)),
                             ("say", name("k")))))
        self.assertEqual(hand.asks(), ("get", "a"))
        self.assertIsNone(hand.give(4))
        self.assertEqual(hand.asks(), ("put", "b", 5))
        hand.give(None)
        self.assertEqual(hand.asks(), ("drop", "a"))
        hand.give("anything")
        self.assertEqual(hand.asks(), ("range", "a", "z"))
        hand.give([("b", 5), ("d", -1)])
        self.assertEqual(hand.asks(), ("put", "b", 10))
        hand.give(things)
        self.assertEqual((hand.asks(), hand.said()), (("put", "d", -2), ()))
        hand.give(0)
        self.assertEqual((hand.asks(), hand.said()), (("over",), ("d",)))

    def test_ranges(self):
        rows = (("say", name("k")), ("say", name("w")))
        state = {"a": 1, "b": 2, "d": 4}
        for block, said in (((("for", "k", "w", A, ("key", "c"), rows),), ("a", 1, "b", 2)),
                            ((("for", "k", "w", ("key", "b"), ("key", "d"), rows),), ("b", 2, "d", 4)),
                            ((("for", "k", "w", Z, A, rows),), ()), ((("for", "w", "w", A, Z, (("say", name("w")),)),),
                                                                     (1, 2, 4)),
                            ((("for", "k", "w", A, A, ()), *rows), ("a", 1)),
                            ((("for", "k", "w", Z, Z, ()), *rows), (None, None)),
                            ((("for", "k", "w", A, Z, (("let", "w", num(9)), ("let", "k", num(8)))), *rows), (8, 9)),
                            ((("for", "k", "w", A, Z, (("drop", name("k")), ("put", Z, num(7)), *rows)),),
                             ("a", 1, "b", 2, "d", 4))):
            self.assertEqual(plain_run(Program(block), state)[:2], ("over", said))
        hand = Hand(Program((("for", "k", "w", Z, A, ()),)))
        self.assertEqual(hand.asks(), ("range", "z", "a"))
        self.assertRaises(NoAnswer, hand.give, [("b", 1)])
        hand.give(())
        self.assertEqual(hand.asks(), ("over",))

    def test_an_answer_is_kept_as_it_was_given(self):
        hand = Hand(Program((("for", "k", "w", A, Z, (("get", "x", name("k")), ("say", name("w")))),)))
        answer = [("a", 1), ("b", 2)]
        hand.give(answer)
        answer.clear()
        hand.give(None)
        self.assertEqual(hand.asks(), ("get", "b"))
        hand.give(None)
        self.assertEqual((hand.asks(), hand.said()), (("over",), (1, 2)))

    def test_rounds_of_a_while(self):
        for most in (1, 2, 99, 100):
            for start in (0, 1, 2, 3, 98, 99, 100, 101):
                block = (("let", "x", num(start)), ("while", name("x"), most, (more("x", -1), ("say", name("x")))),
                         ("say", name("x")))
                word, said, _ = plain_run(Program(block), {})
                rounds = min(start, most)
                self.assertEqual((word, len(said), said[-1]), ("over", rounds + 1, start - rounds))

    def test_it_does_not_look_behind_the_last_round(self):
        for most, due in ((1, ("over",)), (2, ("wrong", (1,)))):
            block = (("let", "x", ONE), ("while", name("x"), most, (("let", "x", A),)))
            self.assertEqual(end_of(block), due)

    def test_what_counts(self):
        """A program that begins 5000 statements, rounds and looks is over; one more is too long."""
        for extra, word in ((0, "over"), (1, "long")):
            # 1 + 49 further looks, and 50 times (1 and 48 further looks and 49 lets), and what is said
            inner = ("while", ONE, 49, (("let", "x", ONE),))
            block = (("while", ONE, 50, (inner,)),) + (("say", ONE),) * (50 + extra)
            self.assertEqual(plain_run(Program(block), {})[0], word, extra)
        for pairs, word in ((2498, "over"), (2499, "over"), (2500, "long")):
            rows = [("a" + letters(at), 1) for at in range(pairs)]
            hand = Hand(Program((("for", "k", "w", A, Z, (("let", "x", ONE),)), ("say", ONE))))
            hand.give(sorted(rows))
            self.assertEqual(hand.asks()[0], word, pairs)
        for pairs, word in ((4999, "over"), (5000, "long"), (6000, "long")):
            rows = [("a" + letters(at), at) for at in range(pairs)]
            hand = Hand(Program((("for", "k", "w", A, Z, ()),)))
            hand.give(tuple(sorted(rows)))
            self.assertEqual(hand.asks(), (word,), pairs)

    def test_the_5001st_is_not_begun(self):
        inner = ("while", ONE, 49, (("let", "x", ONE),))
        fill = (("while", ONE, 50, (inner,)),) + (("say", ONE),) * 49
        for block, due in (((*fill, ("fail",)), ("failed",)), ((*fill, ("say", ONE), ("fail",)), ("long",)),
                           ((*fill, ("let", "x", ("/", ONE, num(0)))), ("wrong", (50,))),
                           ((*fill, ("say", ONE), ("let", "x", ("/", ONE, num(0)))), ("long",)),
                           ((*fill, ("get", "x", A)), ("over",)), ((*fill, ("say", ONE), ("get", "x", A)), ("long",)),
                           ((*fill, ("for", "k", "w", A, Z, ())), ("long",)),
                           ((*fill, ("while", ONE, 1, ())), ("over",)), ((*fill, ("while", ONE, 2, ())), ("long",)),
                           ((*fill, ("while", num(0), 2, ())), ("over",)), ((*fill, ("if", ONE, (), ())), ("over",)),
                           ((*fill, ("if", ONE, (("fail",),), ())), ("long",))):
            self.assertEqual(end_of(block, {"a": 1}), due)
        word, said, behind = plain_run(Program((("put", A, num(5)), *fill[:1], *(("say", ONE),) * 60)), {"a": 1})
        self.assertEqual((word, len(said), behind), ("long", 49, {"a": 1}))

    def test_any_answers_end_behind_5000_statements(self):
        block = (("while", ONE, 100, (("get", "x", A), ("for", "k", "w", A, Z, (("put", A, ONE), ("drop", Z))))),)
        hand = Hand(Program(block))
        asks = 0
        rows = [(letter, 1) for letter in "abcdefghijklmnop"]
        while not is_end(hand.asks()):
            hand.give(rows if hand.asks()[0] == "range" else None)
            asks += 1
        self.assertEqual((hand.asks(), asks < 5000), (("long",), True))

    def test_wrong_answers_change_nothing(self):
        program = Program((("get", "n", A), ("for", "k", "w", ("key", "b"), ("key", "d"), (("say", name("k")),)),
                           ("say", name("n"))))
        hand = Hand(program)
        for thing in things():
            if not plain_answer(("get", "a"), thing):
                self.assertRaises(NoAnswer, hand.give, thing)
                self.assertEqual((hand.asks(), hand.said()), (("get", "a"), ()))
        hand.give(-BOUND)
        wrong = [[("a", 1)], [("e", 1)], [("b", 1), ("b", 1)], [("c", 1), ("b", 1)], [["b", 1]], [("b", None)],
                 [("b", True)], [("b", BOUND + 1)], [("b",)], [("b", 1, 1)], ("b", 1), [("b", 1), None], {"b": 1}, None,
                 [("B", 1)], [(1, 1)], ((("b", 1),),), range(0), "", b"", {}]
        for thing in [*things(), *wrong]:
            if not plain_answer(("range", "b", "d"), thing):
                self.assertRaises(NoAnswer, hand.give, thing)
                self.assertEqual((hand.asks(), hand.said()), (("range", "b", "d"), ()))
        for thing in wrong:
            self.assertFalse(plain_answer(("range", "b", "d"), thing))
        hand.give((("b", 1), ("d", BOUND)))
        self.assertEqual((hand.asks(), hand.said()), (("over",), ("b", "d", -BOUND)))

    def test_anything_answers_put_and_drop(self):
        for thing in things():
            hand = Hand(Program((("put", A, ONE), ("drop", A))))
            hand.give(thing)
            self.assertEqual(hand.asks(), ("drop", "a"))
            hand.give(thing)
            self.assertEqual(hand.asks(), ("over",))

    def test_nothing_is_asked_behind_the_end(self):
        for block in ((), (("fail",),), (("say", ONE), ("get", "x", ONE)), (("while", ONE, 100, (
                ("while", ONE, 100, (("say", ONE),)),)),)):
            hand = Hand(Program(block))
            end = (hand.asks(), hand.said())
            for thing in things():
                self.assertRaises(NotAsked, hand.give, thing)
            self.assertEqual((hand.asks(), hand.said()), end)

    def test_what_was_said_ahead_of_the_end(self):
        for last, word in ((("fail",), "failed"), (("drop", ONE), "wrong"), (("drop", A), "over")):
            block = (("say", ONE), ("put", A, ONE), ("say", A), ("say", name("x")), last)
            state = {"b": 3}
            self.assertEqual(plain_run(Program(block), state),
                             (word, (1, "a", None), {"b": 3}))

    def test_copies_go_on_apart(self):
        for seed in range(300):
            draw = random.Random(seed)
            program = Program(drawn_program_block(draw))
            pairs = [(Hand(program), Plain(program), [])]
            for _ in range(30):
                hand, plain, answers = draw.choice(pairs)
                if draw.random() < 0.2 and len(pairs) < 4:
                    twin = Plain(program)
                    for answer in answers:
                        twin.give(answer)
                    pairs.append((hand.copy(), twin, list(answers)))
                elif not is_end(plain.ask):
                    answer = drawn_answer(draw, plain.ask)
                    if plain_answer(plain.ask, answer):
                        hand.give(answer)
                        plain.give(answer)
                        answers.append(answer)
                for other, told, _ in pairs:
                    self.assertEqual((other.asks(), other.said()), (told.ask, tuple(told.said)))
            self.assertEqual(len({id(hand) for hand, _, _ in pairs}), len(pairs))

    def test_a_hand_is_equal_to_itself_alone(self):
        hand = Hand(Program(()))
        self.assertTrue(hand == hand)
        for other in (hand.copy(), Hand(Program(())), Program(()), ("over",), None):
            self.assertFalse(hand == other)

    def test_a_copy_amid_loops(self):
        block = (("while", ONE, 3, (("for", "k", "w", A, Z, (("get", "x", name("k")), ("say", name("x")))),)),)
        hand = Hand(Program(block))
        hand.give([("a", 1), ("b", 2)])
        hand.give(10)
        other = hand.copy()
        hand.give(20)
        self.assertEqual((hand.asks(), other.asks()), (("range", "a", "z"), ("get", "b")))
        other.give(30)
        self.assertEqual((hand.said(), other.said(), other.asks()), ((10, 20), (10, 30), ("range", "a", "z")))
        for one in (hand, other):
            for _ in range(2):
                one.give([])
            self.assertEqual(one.asks(), ("over",))
        ended = hand.copy()
        self.assertEqual((ended.asks(), ended.said()), (("over",), (10, 20)))
        self.assertRaises(NotAsked, ended.give, 1)

    def test_a_copy_counts_on(self):
        inner = ("while", ONE, 49, (("let", "x", ONE),))
        block = (("while", ONE, 50, (inner,)), ("get", "x", A)) + (("say", ONE),) * 49
        for extra, word in (((), "over"), ((("say", ONE),), "long")):
            hand = Hand(Program(block + extra))
            other = hand.copy()
            for one in (hand, other):
                one.give(5)
                self.assertEqual(one.asks(), (word,))
        begins = (("get", "x", A), *block[:1], ("get", "x", A), *block[2:-1])
        for extra, word in (((), "over"), ((("say", ONE),), "long")):
            hand = Hand(Program(begins + extra))
            hand.give(5)
            other = hand.copy()
            for one in (hand, other, other.copy()):
                one.give(5)
                self.assertEqual(one.asks(), (word,))

    def test_no_state(self):
        program = Program((("fail",),))
        for thing in [*things(), {"a": None}, {"a": True}, {1: 1}, {"A": 1}, {"a": BOUND + 1}, [("a", 1)], {"a": "b"}]:
            right = type(thing) is dict and all(plain_key(key) and plain_integer(worth, -BOUND, BOUND)
                                                for key, worth in thing.items())
            if right:
                self.assertEqual(plain_run(program, thing), ("failed", (), thing))
            else:
                self.assertRaises(NoState, plain_run, program, thing)

    def test_the_dict_that_was_passed_stays(self):
        state = {"a": 1}
        word, said, behind = plain_run(Program((("put", A, num(2)), ("drop", ("key", "b")), ("put", Z, ONE))), state)
        self.assertEqual((word, said, behind, state), ("over", (), {"a": 2, "z": 1}, {"a": 1}))
        behind["q"] = 1
        self.assertEqual(state, {"a": 1})
        for block in ((("put", A, num(2)), ("fail",)), ()):
            _, _, behind = plain_run(Program(block), state)
            self.assertEqual(behind, {"a": 1})
            behind.clear()
            self.assertEqual(state, {"a": 1})


def letters(number):
    """Letters for a number, ascending with it."""
    return "".join("abcdefghij"[int(figure)] for figure in f"{number:05d}")


def drawn_answer(draw, ask):
    if draw.random() < 0.1:
        return draw.choice([True, "a", [], (), [("a", 1), ("a", 1)], BOUND + 1, {}])
    if ask[0] == "get":
        return draw.choice([None, 0, 1, -1, BOUND, -BOUND])
    if ask[0] == "range":
        keys = sorted(draw.sample(KEYS, draw.randrange(4)))
        rows = [(key, draw.randrange(-3, 4)) for key in keys if draw.random() < 0.2 or ask[1] <= key <= ask[2]]
        return draw.choice([list, tuple])(rows)
    return None


if __name__ == "__main__":
    unittest.main()
