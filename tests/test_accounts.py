import random
import unittest

from wholecommits.clients import is_right_account, played
from wholecommits.judges import Dealing
from wholecommits.tongue import Program
from tests.play_rules import drawn_play, is_right
from tests.test_hands import A, ONE, name, num
from tests.test_plays import ADD_A, COPY_AB, LOOK_A, PUT_A, steps
from tests.things import things

B = ("key", "b")
PARTS = ["commits", "forced", "cuts", "refused", "ends", "said", "state"]
RANGE = Program((("for", "k", "w", A, ("key", "z"), (("put", name("k"), ("+", name("w"), ONE)),)),))
PUT_B = Program((("put", B, num(3)),))


def replaced(row, at, thing):
    return (*row[:at], thing, *row[at + 1:]) if isinstance(row, tuple) else [*row[:at], thing, *row[at + 1:]]


def with_part(account, part, thing):
    return {**account, part: thing}


def with_commit(account, at, which, thing):
    """An account in which one part of one quadruple is another one."""
    return with_part(account, "commits", replaced(account["commits"], at,
                                                  replaced(account["commits"][at], which, thing)))


class Accounts(unittest.TestCase):

    def setUp(self):
        # Three commits that stand, behind a cut by which two others are gone, and one cut by which none is.
        self.play = ((PUT_A, LOOK_A, PUT_B, ADD_A, RANGE, COPY_AB),
                     steps("go2", "go2", "go0", "soon0", "go1", "soon1") + (("cut", ()),)
                     + steps("go3", "go3", "go3", "go4", "go4", "go4", "go4") + (("cut", ()),), 1)
        self.account = played(40, 12, self.play)
        self.assertEqual([(row[0], row[1].number, row[3]) for row in self.account["commits"]],
                         [(2, 1, True), (0, 2, False), (1, None, False), (3, 2, True), (4, 3, True)])
        self.assertEqual((self.account["cuts"], self.account["forced"], self.account["state"]),
                         ([(3, 1, (1, 2)), (5, 3, ())], (0, 3, 4), {"a": 2, "b": 4}))

    def judged(self, account, play=None):
        play = self.play if play is None else play
        right = is_right_account(play, account)
        self.assertIs(right, is_right(play, account))
        return right

    def wrong(self, account):
        self.assertIs(self.judged(account), False)

    def right(self, account):
        self.assertIs(self.judged(account), True)

    def test_right_as_it_is(self):
        self.right(self.account)
        self.right({**self.account, "more": 5, 7: None, "": ()})
        self.right(dict(reversed(list(self.account.items()))))
        for part in ("refused", "ends", "said"):
            for thing in things():
                self.right(with_part(self.account, part, thing))

    def test_things_of_all_kinds(self):
        for thing in things():
            self.wrong(thing)
            for part in ("commits", "forced", "cuts", "state"):
                told = self.judged(with_part(self.account, part, thing))
                if part != "forced":
                    self.assertIs(told, False)
            for at in range(5):
                for which in range(4):
                    self.judged(with_commit(self.account, at, which, thing))
                self.wrong(with_part(self.account, "commits", replaced(self.account["commits"], at, thing)))
            for at in range(2):
                for which in range(3):
                    self.judged(with_part(self.account, "cuts", replaced(
                        self.account["cuts"], at, replaced(self.account["cuts"][at], which, thing))))
            self.wrong(with_part(self.account, "forced", (0, thing, 4)) if thing not in (1, 2, 3)
                       else with_part(self.account, "forced", (thing,) * 2))

    def test_parts_lacking(self):
        for part in PARTS:
            self.wrong({other: self.account[other] for other in PARTS if other != part})
        self.wrong({})
        self.wrong(list(self.account.items()))

    def test_an_ask_or_an_answer(self):
        told = self.account["commits"][3][2]
        self.assertEqual(told, ((("get", "a"), None), (("put", "a", 1), None)))
        for other in (((("get", "b"), None), told[1]), ((("get", "a"), 0), told[1]),
                      ((("get", "a"), None), (("put", "a", 2), None)), (told[0],), (), (*told, told[1]),
                      (told[1], told[0]), list(told), (told[0], (("put", "a", 1), 1)), (told[0], (("drop", "a"), None)),
                      (told[0], told[1][:1]), None, (list(told[0]), told[1])):
            self.wrong(with_commit(self.account, 3, 2, other))
        told = self.account["commits"][4][2]
        self.assertEqual(told[0], (("range", "a", "z"), (("a", 1), ("b", 3))))
        for other in ([("a", 1), ("b", 3)], (("a", 1),), (("a", 1), ("b", 4)), (("b", 3), ("a", 1)), None):
            self.wrong(with_commit(self.account, 4, 2, replaced(told, 0, (("range", "a", "z"), other))))
        self.wrong(with_commit(self.account, 4, 2, replaced(told, 0, (("range", "a", "y"), told[0][1]))))

    def test_a_client(self):
        for at, client in ((0, 0), (3, 4), (4, 3), (3, 6), (3, -1), (3, None), (0, 5), (0, 1), (1, 6)):
            self.wrong(with_commit(self.account, at, 0, client))

    def test_the_order_of_commits(self):
        commits = self.account["commits"]
        self.wrong(with_part(self.account, "commits", [*commits[:3], commits[4], commits[3]]))
        self.wrong(with_part(self.account, "commits", [commits[1], commits[0], *commits[2:]]))
        self.wrong(with_part(self.account, "commits", list(reversed(commits))))
        self.wrong(with_part(self.account, "commits", tuple(commits)))

    def test_one_left_out_or_twice(self):
        commits = self.account["commits"]
        for at in range(5):
            self.wrong(with_part(self.account, "commits", commits[:at] + commits[at + 1:]))
            self.wrong(with_part(self.account, "commits", commits[:at] + [commits[at]] + commits[at:]))
        self.wrong(with_part(self.account, "commits", []))

    def test_a_dealing_s_parts(self):
        def dealing(at, snapshot=None, number=None, gets=None, ranges=None, writes=None):
            old = self.account["commits"][at][1]
            parts = [old.snapshot, old.number, old.gets, old.ranges, old.writes]
            new = [snapshot, number, gets, ranges, writes]
            return Dealing(*[part if other is None else other for part, other in zip(parts, new)])
        self.wrong(with_commit(self.account, 3, 1, dealing(3, number=3)))
        self.wrong(with_commit(self.account, 4, 1, dealing(4, number=4)))
        self.wrong(with_commit(self.account, 0, 1, dealing(0, number=2)))
        self.wrong(with_commit(self.account, 4, 1, Dealing(3, 4, (), (), (("b", 4),))))
        self.wrong(with_commit(self.account, 3, 1, Dealing(2, None, (), (), ())))
        self.wrong(with_commit(self.account, 1, 1, Dealing(0, 1, (), (), (("a", 1),))))
        self.wrong(with_commit(self.account, 2, 1, Dealing(1, None, ("a",), (), ())))
        # A snapshot ahead of what was seen puts the range ahead of what it has read.
        self.wrong(with_commit(self.account, 4, 1, Dealing(1, 3, (), (("a", "z", ()),), (("a", 2), ("b", 4)))))
        self.wrong(with_commit(self.account, 3, 1, Dealing(0, 2, ("a", "b"), (), (("a", 1), ("b", 3)))))
        for thing in (None, (0, 1, (), (), ()), self.account["commits"][4], PUT_A):
            self.wrong(with_commit(self.account, 0, 1, thing))

    def test_no_serial_order(self):
        one = Dealing(0, 1, ("b",), (), (("a", 1),))
        other = Dealing(0, 2, ("a",), (), (("b", 1),))
        programs = (Program((("get", "n", B), ("put", A, ONE))), Program((("get", "n", A), ("put", B, ONE))))
        rows = [(0, one, ((("get", "b"), None), (("put", "a", 1), None)), True),
                (1, other, ((("get", "a"), None), (("put", "b", 1), None)), True)]
        account = {"commits": rows, "forced": (), "cuts": [], "refused": [], "ends": (), "said": (),
                   "state": {"a": 1, "b": 1}}
        self.assertIs(self.judged(account, (programs, (), 0)), False)
        lone = {**account, "commits": rows[:1], "state": {"a": 1}}
        self.assertIs(self.judged(lone, (programs, (), 0)), True)

    def test_orders_that_turn_the_numbers_round(self):
        """The one with the second number stands first: it has not seen what the other wrote."""
        play = ((PUT_A, Program((("get", "n", A), ("put", B, ONE)))), steps("go1", "go0", "go0", "go1", "go1"), 0)
        account = played(40, 8, play)
        self.assertEqual([row[1].number for row in account["commits"]], [1, 2])
        self.assertIs(self.judged(account, play), True)
        changed = with_commit(account, 1, 2, ((("get", "a"), 1), (("put", "b", 1), None)))
        self.assertIs(self.judged(changed, play), False)

    def test_one_that_is_not_over(self):
        fails = Program((("put", A, ONE), ("fail",)))
        account = played(40, 8, ((PUT_A,), steps("go0", "go0"), 0))
        self.assertIs(self.judged(account, ((PUT_A,), (), 0)), True)
        self.assertIs(self.judged(account, ((fails,), (), 0)), False)
        self.assertIs(self.judged(account, ((Program((("put", A, ONE), ("put", A, A))),), (), 0)), False)
        self.assertIs(self.judged(account, ((Program((("put", A, ONE), ("say", ONE))),), (), 0)), True)

    def test_forced(self):
        for forced in ((0, 1, 3, 4), (1,), (2,), (0, 2)):
            self.wrong(with_part(self.account, "forced", forced))
        for forced in ([0, 3, 4], (4, 3, 0), (0, 0), (0, 5), (-1, 0), (True,), None, {0: 1}, "0"):
            self.wrong(with_part(self.account, "forced", forced))
        for forced in ((), (0,), (3, 4), (0, 3, 4)):
            self.right(with_part(self.account, "forced", forced))

    def test_cuts(self):
        first, second = self.account["cuts"]
        for cuts in ([second], [second, first], [], [first, second, (5, 2, ())], [first, second, (5, 2, (4,))],
                     [(2, 1, (1,)), second], [(3, 0, (1, 2)), second], [(3, 0, (0, 1, 2)), second],
                     [(3, 2, (1, 2)), second],
                     [(3, 1, (1,)), second], [(3, 1, ()), second], [(3, 1, (1, 2, 3)), second],
                     [(3, 1, [1, 2]), second],
                     [(4, 1, (1, 2)), second], [(3, 1, (2, 1)), second], [first, (5, 3, (4,))], [first, (2, 3, ())],
                     [first, (6, 3, ())], [first, (5, 1, ())], [first, (5, -1, ())], [first, (5, None, ())],
                     [(3, 1, (1, 2), 0), second], [list(first), second], (first, second), {first: second}, None,
                     [(True, 1, ()), first, second], [(-1, 0, ()), first, second], [first, (5, True, ())], [first, 5]):
            self.wrong(with_part(self.account, "cuts", cuts))
        for cuts in ([first], [(0, 0, ()), first, second], [first, first[:2] + ((),), second], [first, second, second],
                     [first, (3, 1, ()), (4, 2, ()), (5, 10 ** 18, ())]):
            self.right(with_part(self.account, "cuts", cuts))

    def test_stands(self):
        for at in range(5):
            stands = self.account["commits"][at][3]
            for thing in (not stands, int(stands), None, "", ()):
                self.wrong(with_commit(self.account, at, 3, thing))

    def test_the_state(self):
        for state in ({}, {"a": 2}, {"a": 2, "b": 3}, {"a": 2, "b": 4, "c": 0}, {"b": 2, "a": 4}, [("a", 2), ("b", 4)],
                      None, {"a": 2, "b": "4"}, {"a": 2, "b": None}, (("a", 2), ("b", 4))):
            self.wrong(with_part(self.account, "state", state))
        self.right(with_part(self.account, "state", {"b": 4, "a": 2}))

    def test_equal_is_what_equals_tells(self):
        play = ((PUT_A, LOOK_A), steps("go0", "go0", "go1", "go1"), 0)
        account = played(40, 8, play)
        self.assertIs(self.judged(with_part(account, "state", {"a": True}), play), True)
        self.assertIs(self.judged(with_commit(account, 1, 2, ((("get", "a"), True),)), play), True)
        self.assertIs(self.judged(with_commit(account, 0, 2, ((("put", "a", True), None),)), play), True)

    def test_the_empty_account(self):
        empty = {"commits": [], "forced": (), "cuts": [], "refused": [], "ends": ("on",), "said": ((),), "state": {}}
        self.assertIs(self.judged(empty, ((PUT_A,), (), 0)), True)
        self.assertEqual(played(40, 8, ((PUT_A,), (), 0)), empty)
        self.assertIs(self.judged({**empty, "state": {"a": 1}}, ((PUT_A,), (), 0)), False)
        self.assertIs(self.judged({**empty, "cuts": [(0, 5, ()), (0, 0, ())]}, ((PUT_A,), (), 0)), True)

    def test_drawn_changes(self):
        told = {True: 0, False: 0}
        for seed in range(300):
            draw = random.Random(seed)
            play = drawn_play(draw, 80)
            account = played(40, 8, play)
            for _ in range(20):
                told[self.judged(changed(draw, account), play)] += 1
        self.assertGreater(told[False], 2000)
        self.assertGreater(told[True], 200)


def changed(draw, account):
    """An account in which one thing is another one."""
    part = draw.choice(["commits", "commits", "commits", "forced", "cuts", "state"])
    thing = account[part]
    if part == "state":
        other = dict(thing)
        other[draw.choice("abcd")] = draw.randrange(-1, 4)
        return with_part(account, part, other)
    rows = list(thing)
    if not rows or draw.random() < 0.2:
        rows.append(draw.choice([0, 1, 2] if part == "forced" else [(0, 0, ())]) if part != "commits"
                    else (0, Dealing(0, None, (), (), ()), (), True))
    elif draw.random() < 0.3:
        at, other = draw.randrange(len(rows)), draw.randrange(len(rows))
        rows[at], rows[other] = rows[other], rows[at]
    elif draw.random() < 0.3:
        del rows[draw.randrange(len(rows))]
    elif part == "forced":
        rows[draw.randrange(len(rows))] += draw.choice([-1, 1])
    else:
        at = draw.randrange(len(rows))
        rows[at] = changed_row(draw, part, rows[at])
    return with_part(account, part, tuple(rows) if part == "forced" else rows)


def changed_row(draw, part, row):
    which = draw.randrange(len(row))
    if part == "cuts":
        return replaced(row, which, row[2] + (4,) if which == 2 else max(0, row[which] + draw.choice([-1, 1])))
    client, dealing, told, stands = row
    if which == 0:
        return replaced(row, 0, draw.randrange(6))
    if which == 3:
        return replaced(row, 3, not stands)
    if which == 2 and told:
        at = draw.randrange(len(told))
        ask, answer = told[at]
        return replaced(row, 2, replaced(told, at, draw.choice([(("get", "a"), answer), (ask, 1), (ask, ()),
                                                                (ask, None)])))
    snapshot = max(0, dealing.snapshot + draw.choice([-1, 0, 1]))
    number = dealing.number
    if number is not None:
        number = max(snapshot + 1, number + draw.choice([-1, 0, 1]))
    gets = draw.choice([dealing.gets, (), ("a",), ("a", "b", "c", "d")])
    return replaced(row, 1, Dealing(snapshot, number, gets, dealing.ranges, dealing.writes))


if __name__ == "__main__":
    unittest.main()
