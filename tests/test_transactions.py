import random
import unittest

from wholecommits.errors import BadDealing, Ended, NoKey, NoWorth
from wholecommits.judges import Dealing
from wholecommits.transactions import Transaction
from tests.dealing_rules import KEYS
from tests.things import plain_integer, plain_key, things

GREATEST = 10 ** 18


class Source:
    """What a snapshot holds, asked as a store is asked; it keeps an account of what it was asked."""

    def __init__(self, worths):
        self.worths = worths
        self.asked = []

    def look(self, key):
        self.asked.append(key)
        return self.worths.get(key)

    def walk(self, low, high):
        self.asked.append((low, high))
        return [(key, self.worths[key]) for key in sorted(self.worths) if low <= key <= high]


class Account:
    """A transaction beside a plain dict, with the test's own account of what it has seen and written."""

    def __init__(self, case, snapshot, worths):
        self.case = case
        self.source = Source(dict(worths))
        self.made = Transaction(snapshot, self.source.look, self.source.walk)
        self.snapshot = snapshot
        self.state = dict(worths)
        self.keys = set()
        self.ranges = set()
        self.marks = {}

    def get(self, key):
        if key not in self.marks:
            self.keys.add(key)
        self.case.assertEqual(self.made.get(key), self.state.get(key))

    def between(self, low, high):
        if low <= high:
            self.ranges.add((low, high, tuple(sorted(key for key in self.marks if low <= key <= high))))
        found = self.made.between(low, high)
        self.case.assertIs(type(found), list)
        self.case.assertEqual(found, [(key, self.state[key]) for key in sorted(self.state) if low <= key <= high])
        found.append(("a", None))

    def put(self, key, worth):
        self.state[key] = self.marks[key] = worth
        self.case.assertIsNone(self.made.put(key, worth))

    def drop(self, key):
        self.state.pop(key, None)
        self.marks[key] = None
        self.case.assertIsNone(self.made.drop(key))

    def told(self):
        return (self.snapshot, tuple(sorted(self.keys)), tuple(sorted(self.ranges)), tuple(sorted(self.marks.items())))

    def check(self):
        made = self.made
        self.case.assertEqual((made.stands_at(), made.saw_keys(), made.saw_ranges(), made.wrote()), self.told())
        number = self.snapshot + 3 if self.marks else None
        snapshot, keys, ranges, marks = self.told()
        dealing = made.dealing(number)
        self.case.assertEqual(dealing, Dealing(snapshot, number, keys, ranges, marks))
        return dealing, Dealing(snapshot, number, keys, ranges, marks)


def drawn_worths(draw):
    return {key: draw.choice([0, 1, -1, GREATEST, -GREATEST]) for key in draw.sample(KEYS, draw.randrange(len(KEYS)))}


def one_deed(draw, account):
    deed = draw.choice(["get", "get", "between", "between", "put", "drop"])
    if deed == "get":
        account.get(draw.choice(KEYS))
    elif deed == "between":
        account.between(draw.choice(KEYS), draw.choice(KEYS))
    elif deed == "put":
        account.put(draw.choice(KEYS), draw.choice([0, 5, GREATEST, -GREATEST]))
    else:
        account.drop(draw.choice(KEYS))


class Transactions(unittest.TestCase):

    def begin(self, worths):
        self.source = Source(worths)
        return Transaction(7, self.source.look, self.source.walk)

    def test_a_new_one(self):
        made = self.begin({"a": 1})
        self.assertEqual((made.stands_at(), made.is_open(), made.saw_keys(), made.saw_ranges(), made.wrote()),
                         (7, True, (), (), ()))
        self.assertEqual(made.dealing(None), Dealing(7, None, (), (), ()))
        self.assertEqual(self.source.asked, [])

    def test_against_a_plain_dict(self):
        for seed in range(60):
            draw = random.Random(seed)
            account = Account(self, draw.randrange(9), drawn_worths(draw))
            for _ in range(40):
                one_deed(draw, account)
                account.check()

    def test_several_at_once(self):
        for seed in range(20):
            draw = random.Random(seed)
            worths = drawn_worths(draw)
            accounts = [Account(self, 4, worths) for _ in range(5)]
            for _ in range(150):
                one_deed(draw, draw.choice(accounts))
                for account in accounts:
                    account.check()

    def test_dealings_stay_as_they_were_made(self):
        draw = random.Random(5)
        account = Account(self, 2, drawn_worths(draw))
        made = []
        for _ in range(60):
            one_deed(draw, account)
            made.append(account.check())
        for dealing, expected in made:
            self.assertEqual(dealing, expected)

    def test_a_key_that_was_written_is_not_seen_behind_that(self):
        made = self.begin({"a": 1, "b": 2})
        self.assertEqual(made.get("a"), 1)
        made.put("a", 5)
        made.put("b", 6)
        self.assertEqual((made.get("a"), made.get("b")), (5, 6))
        made.drop("c")
        self.assertIsNone(made.get("c"))
        self.assertEqual((made.saw_keys(), made.wrote()), (("a",), (("a", 5), ("b", 6), ("c", None))))
        self.assertEqual(self.source.asked, ["a"])

    def test_a_key_without_a_worth_is_seen(self):
        made = self.begin({})
        self.assertIsNone(made.get("b"))
        self.assertIsNone(made.get("a"))
        self.assertIsNone(made.get("b"))
        self.assertEqual(made.saw_keys(), ("a", "b"))

    def test_own_keys_of_ranges(self):
        made = self.begin({"a": 1, "b": 2, "d": 4})
        made.put("b", 7)
        made.drop("d")
        made.drop("e")
        self.assertEqual(made.between("a", "d"), [("a", 1), ("b", 7)])
        self.assertEqual(made.between("a", "d"), [("a", 1), ("b", 7)])
        made.put("c", 3)
        self.assertEqual(made.between("a", "d"), [("a", 1), ("b", 7), ("c", 3)])
        self.assertEqual(made.between("c", "c"), [("c", 3)])
        self.assertEqual(made.between("x", "z"), [])
        self.assertEqual(made.saw_ranges(), (("a", "d", ("b", "c", "d")), ("a", "d", ("b", "d")), ("c", "c", ("c",)),
                                             ("x", "z", ())))
        self.assertEqual(made.saw_keys(), ())

    def test_a_range_the_wrong_way_about_sees_nothing(self):
        made = self.begin({"a": 1, "b": 2})
        made.put("a", 3)
        self.assertEqual(made.between("b", "a"), [])
        self.assertEqual((made.saw_ranges(), self.source.asked), ((), []))
        self.assertEqual(made.between("b", "b"), [("b", 2)])

    def test_what_was_returned_may_be_changed(self):
        rows = [("a", 1), ("b", 2)]
        made = Transaction(0, dict(rows).get, lambda low, high: rows)
        made.drop("b")
        made.between("a", "b").clear()
        self.assertEqual((made.between("a", "b"), rows), ([("a", 1)], [("a", 1), ("b", 2)]))

    def test_the_end(self):
        made = self.begin({"a": 1})
        made.get("a")
        made.between("a", "b")
        made.put("b", 2)
        before = (made.saw_keys(), made.saw_ranges(), made.wrote(), made.dealing(9))
        self.assertIs(made.is_open(), True)
        self.assertIsNone(made.end())
        self.assertIs(made.is_open(), False)
        for call in (lambda: made.get("a"), lambda: made.between("a", "b"), lambda: made.put("a", 1),
                     lambda: made.drop("a"), made.end):
            self.assertRaises(Ended, call)
        self.assertEqual((made.saw_keys(), made.saw_ranges(), made.wrote(), made.dealing(9)), before)
        self.assertEqual((made.stands_at(), made.is_open()), (7, False))

    def test_the_end_comes_ahead_of_all_else(self):
        made = self.begin({})
        made.end()
        for thing in things():
            self.assertRaises(Ended, made.get, thing)
            self.assertRaises(Ended, made.between, thing, thing)
            self.assertRaises(Ended, made.put, thing, thing)
            self.assertRaises(Ended, made.drop, thing)

    def test_wrong_things(self):
        made = self.begin({"a": 1})
        made.put("b", 2)
        for thing in things():
            if not plain_key(thing):
                self.assertRaises(NoKey, made.get, thing)
                self.assertRaises(NoKey, made.between, thing, "a")
                self.assertRaises(NoKey, made.between, "a", thing)
                self.assertRaises(NoKey, made.between, thing, thing)
                self.assertRaises(NoKey, made.put, thing, None)
                self.assertRaises(NoKey, made.drop, thing)
            if not plain_integer(thing, -GREATEST, GREATEST):
                self.assertRaises(NoWorth, made.put, "c", thing)
                self.assertRaises(NoKey, made.put, "C", thing)
        self.assertRaises(NoWorth, made.put, "c", None)
        self.assertEqual((made.saw_keys(), made.saw_ranges(), made.wrote(), self.source.asked),
                         ((), (), (("b", 2),), []))

    def test_what_may_be_passed(self):
        made = self.begin({})
        for thing in things():
            if plain_key(thing):
                made.put(thing, 3)
                self.assertEqual(made.get(thing), 3)
            if plain_integer(thing, -GREATEST, GREATEST):
                made.put("q", thing)
                self.assertEqual(made.get("q"), thing)

    def test_the_number_of_a_dealing(self):
        looker = self.begin({})
        looker.get("a")
        self.assertIsNone(looker.dealing(None).number)
        self.assertRaises(BadDealing, looker.dealing, 8)
        looker.drop("a")
        self.assertEqual(looker.dealing(8), Dealing(7, 8, ("a",), (), (("a", None),)))
        for number in (None, 7, 0):
            self.assertRaises(BadDealing, looker.dealing, number)


if __name__ == "__main__":
    unittest.main()
