import random
import unittest

from wholecommits.clients import is_right_account, played
from wholecommits.errors import BadDisk, NoPlay
from wholecommits.judges import Dealing
from wholecommits.tongue import Program
from tests.play_rules import Led, drawn_play, is_right
from tests.test_hands import A, ONE, name, num
from tests.things import plain_integer, plain_lot, things

BOUND = 10 ** 18
B = ("key", "b")
LOOK_A = Program((("get", "x", A),))
PUT_A = Program((("put", A, ONE),))
ADD_A = Program((("get", "n", A), ("if", ("=", name("n"), name("q")), (("let", "n", num(0)),), ()),
                 ("put", A, ("+", name("n"), ONE)), ("say", name("n"))))
COPY_AB = Program((("get", "n", A), ("put", B, num(7))))
COPY_BA = Program((("get", "n", B), ("put", A, num(9))))
MANY = Program(tuple(("put", ("key", one + other), num(1)) for one in "abcdefgh" for other in "abcdefgh"))


def steps(*words):
    """Steps told by words: "go0" for ("go", 0) and the like."""
    found = []
    for word in words:
        kind = word.rstrip("0123456789")
        found.append((kind, int(word[len(kind):])) if kind != word else (kind,))
    return tuple(found)


def plain_play(thing):
    """The part by which a thing is no play, None for a play."""
    if type(thing) is not tuple or len(thing) != 3:
        return "programs"
    programs, schedule, tries = thing
    if type(programs) is not tuple or not 1 <= len(programs) <= 6 or any(type(one) is not Program for one in programs):
        return "programs"
    if type(schedule) is not tuple or len(schedule) > 400:
        return "schedule"
    if not plain_integer(tries, 0, 5):
        return "tries"
    for at, step in enumerate(schedule):
        right = type(step) is tuple and 1 <= len(step) <= 2 and type(step[0]) is str
        if right and len(step) == 1:
            right = step[0] in ("force", "vacuum", "check")
        elif right:
            right = {"go": lambda: plain_integer(step[1], 0, len(programs) - 1),
                     "soon": lambda: plain_integer(step[1], 0, len(programs) - 1),
                     "out": lambda: plain_integer(step[1], 0, BOUND), "reach": lambda: plain_integer(step[1], 0, BOUND),
                     "cut": lambda: plain_lot(step[1], BOUND + 1)}.get(step[0], lambda: False)()
        if not right:
            return at
    return None


class Plays(unittest.TestCase):

    def check(self, blocks, ring, play):
        """Play it, and lead it step by step; returns the account."""
        account = played(blocks, ring, play)
        due = Led(self, blocks, ring, play).account()
        self.assertEqual(list(account), ["commits", "forced", "cuts", "refused", "ends", "said", "state"])
        for part in due:
            self.assertEqual(account[part], due[part], part)
            self.assertIs(type(account[part]), type(due[part]), part)
        self.assertIs(is_right(play, account), True)
        self.assertIs(is_right_account(play, account), True)
        return account

    def test_drawn_plays(self):
        found = {}
        gone = cuts = refused = forced = commits = 0
        for seed in range(700):
            draw = random.Random(seed)
            play = drawn_play(draw, draw.choice([5, 30, 60, 120]), draw.choice(["ab", "abcd"]))
            account = self.check(draw.choice([40, 64]), draw.choice([6, 12, 20]), play)
            for word in account["ends"]:
                found[word] = found.get(word, 0) + 1
            gone += sum(len(row[2]) for row in account["cuts"])
            cuts += len(account["cuts"])
            refused += len(account["refused"])
            forced += len(account["forced"])
            commits += len(account["commits"])
        for word in ("over", "failed", "wrong", "refused", "lost", "on"):
            self.assertGreater(found.get(word, 0), 10, found)
        self.assertGreater(min(gone, cuts, refused, forced, commits - gone), 60, (gone, cuts, refused, forced, commits))

    def test_steps_one_by_one(self):
        play = ((PUT_A, LOOK_A), steps("go0"), 0)
        account = self.check(40, 8, play)
        self.assertEqual((account["commits"], account["ends"], account["state"]), ([], ("on", "on"), {}))
        account = self.check(40, 8, ((PUT_A, LOOK_A), steps("go1", "go0", "go0", "go1"), 0))
        self.assertEqual(account["commits"], [
            (0, Dealing(0, 1, (), (), (("a", 1),)), ((("put", "a", 1), None),), True),
            (1, Dealing(0, None, ("a",), (), ()), ((("get", "a"), None),), True)])
        self.assertEqual((account["forced"], account["ends"], account["state"]), ((0,), ("over", "over"), {"a": 1}))

    def test_a_program_without_asks(self):
        account = self.check(40, 8, ((Program(()), Program((("say", ONE), ("fail",)))), steps("go0", "soon1", "go0"),
                                     2))
        self.assertEqual((account["commits"], account["ends"], account["said"]),
                         ([(0, Dealing(0, None, (), (), ()), (), True)], ("over", "failed"), ((), (1,))))

    def test_soon_and_cuts(self):
        play = ((PUT_A, LOOK_A, COPY_AB), steps("go0", "soon0", "go1", "soon1", "go2", "go2") + (("cut", ()),)
                + steps("go2", "go2", "go2"), 1)
        account = self.check(40, 8, play)
        self.assertEqual([(row[0], row[1].number, row[3]) for row in account["commits"]],
                         [(0, 1, False), (1, None, False), (2, 1, True)])
        self.assertEqual((account["cuts"], account["forced"], account["state"]), ([(2, 0, (0, 1))], (2,), {"b": 7}))
        account = self.check(40, 8, (play[0], play[1], 0))
        self.assertEqual((account["ends"], account["state"]), (("over", "over", "lost"), {}))

    def test_a_looker_that_is_forced_makes_its_snapshot_last(self):
        play = ((PUT_A, LOOK_A), steps("go0", "soon0", "go1", "go1") + (("cut", ()),), 0)
        account = self.check(40, 8, play)
        self.assertEqual((account["cuts"], account["forced"], account["state"]), ([(2, 1, ())], (), {"a": 1}))

    def test_cuts_with_all_and_some_blocks(self):
        for lot, last in (((), 0), (tuple(range(700)), 2), ((1,), 1), ((2,), 0), ((1, 2), 2), ((0, 3, 4, BOUND), 0)):
            play = ((PUT_A, ADD_A), steps("go0", "soon0", "go1", "go1", "soon1") + (("cut", lot), ("cut", ())), 0)
            account = self.check(40, 8, play)
            self.assertEqual(account["cuts"], [(2, last, tuple(range(last, 2))), (2, last, ())])
            self.assertEqual(account["state"], {"a": last} if last else {})

    def test_reaches_and_page_writes(self):
        play = ((PUT_A,), steps("go0", "soon0", "reach41") + (("cut", ()),), 0)
        self.assertEqual(self.check(40, 8, play)["state"], {"a": 1})
        play = ((PUT_A,), steps("go0", "soon0", "reach42", "reach0", f"reach{BOUND}") + (("cut", ()),), 0)
        self.assertEqual(self.check(40, 8, play)["state"], {})
        for out in (0, 1, 2, 3, BOUND):
            play = ((PUT_A,), steps("out5", "go0", "soon0", f"out{out}") + (("cut", ()),), 0)
            self.assertEqual(self.check(40, 8, play)["state"], {"a": 1})

    def test_force_check_and_vacuum(self):
        for word, last in (("force", 1), ("check", 1), ("vacuum", 0)):
            account = self.check(40, 8, ((PUT_A,), steps("go0", "soon0", word) + (("cut", ()),), 0))
            self.assertEqual(account["cuts"], [(1, last, () if last else (0,))])
            self.assertEqual(account["forced"], ())

    def test_refused_ones_try_again(self):
        play = ((COPY_AB, COPY_BA), steps("go0", "go1", "go0", "go1", "go0", "go1"), 0)
        account = self.check(40, 8, play)
        self.assertEqual((account["refused"], account["ends"]), ([(1, (1, 0))], ("over", "refused")))
        account = self.check(40, 8, (play[0], play[1], 1))
        self.assertEqual((account["ends"], account["state"]), (("over", "on"), {"b": 7}))
        account = self.check(40, 8, (play[0], play[1] + steps("go1", "go1", "go1", "go1"), 1))
        self.assertEqual((account["ends"], account["state"]), (("over", "over"), {"a": 9, "b": 7}))
        self.assertEqual(account["commits"][1][2], ((("get", "b"), 7), (("put", "a", 9), None)))

    def test_numbers_in_rings_count_what_was_begun(self):
        fails = Program((("fail",),))
        play = ((fails, fails, COPY_AB, COPY_BA), steps("go0", "go1", "go2", "go3", "go2", "go3", "go2", "go3"), 0)
        self.assertEqual(self.check(40, 8, play)["refused"], [(3, (3, 2))])

    def test_what_was_said_in_the_newest_try(self):
        program = Program((("say", num(1)), ("get", "n", A), ("say", name("n")), ("put", B, num(2)), ("say", num(3))))
        for many, said in ((0, (1,)), (1, (1, None)), (2, (1, None, 3)), (3, (1, None, 3))):
            account = self.check(40, 8, ((program,), (("go", 0),) * many, 0))
            self.assertEqual(account["said"], (said,))
        for tries, said in ((0, (1, None, 3)), (1, (1,))):
            account = self.check(40, 8, ((program,), (("go", 0), ("go", 0), ("cut", ())), tries))
            self.assertEqual((account["said"], account["ends"]), ((said,), ("lost" if tries == 0 else "on",)))

    def test_a_cut_does_nothing_to_those_that_have_not_begun(self):
        play = ((PUT_A,), (("cut", ()), ("cut", ())) + steps("go0", "go0"), 0)
        account = self.check(40, 8, play)
        self.assertEqual((account["ends"], account["cuts"]), (("over",), [(0, 0, ()), (0, 0, ())]))
        play = ((PUT_A,), steps("go0") + (("cut", ()), ("cut", ()), ("cut", ())) + steps("go0", "go0"), 1)
        self.assertEqual(self.check(40, 8, play)["ends"], ("over",))

    def test_full_ones(self):
        for blocks, ring in ((64, 4), (60, 50)):
            play = ((MANY, PUT_A, LOOK_A), (("go", 0),) * 70 + steps("go1", "go1", "go2", "go2"), 3)
            account = self.check(blocks, ring, play)
            self.assertEqual((account["ends"], account["state"]), (("full", "over", "over"), {"a": 1}))

    def test_wrong_and_long_ones(self):
        long = Program((("put", A, ONE), ("while", ONE, 100, (("while", ONE, 100, (("let", "x", ONE),)),))))
        wrong = Program((("put", A, ONE), ("drop", num(5))))
        account = self.check(40, 8, ((long, wrong), steps("go0", "go1", "go1", "go0", "go0", "go1"), 5))
        self.assertEqual((account["ends"], account["state"], account["commits"]), (("long", "wrong"), {}, []))

    def test_one_that_is_at_its_end_does_nothing_more(self):
        account = self.check(40, 8, ((PUT_A,), steps("go0", "go0", "go0", "soon0", "go0"), 5))
        self.assertEqual((len(account["commits"]), account["state"]), (1, {"a": 1}))

    def test_vacuums_whose_records_are_too_large_are_given_up(self):
        keys = [one + other for one in "abcdefghij" for other in "abcde"]
        fill = [Program(tuple(("put", ("key", key), num(1)) for key in keys[at:at + 15])) for at in (0, 15, 30)]
        marks = [Program(tuple(("put", ("key", key), num(7)) for key in keys[at:at + 15:5])) for at in (0, 15, 30)]
        programs = (*fill, *marks)
        ahead = tuple(("go", at) for at in range(6) for _ in range(16))
        for ring, left in ((4, 6), (30, 0)):
            play = (programs, ahead + (("vacuum",),), 0)
            led = Led(self, 80, ring, play)
            self.assertEqual(led.beside.store.debt(), left)
            self.check(80, ring, play)

    def test_what_a_vacuum_takes_is_told_by_a_full_log(self):
        """The log is full behind four commits: a record of a vacuum makes them last; none comes where nothing goes.

        What goes is a version that the one with an open transaction alone still sees, so it has to be given up.
        """
        def put(letter):
            return Program((("put", ("key", letter), ONE),))
        fails = Program((("get", "n", A), ("fail",)))
        seen_b = Program((("get", "n", B), ("put", A, ONE)))
        seen_a = Program((("get", "n", A), ("put", B, ONE)))
        for programs, words, ends in (
                ((PUT_A, fails, PUT_A, put("c"), put("d")), "go1 go2 soon2 go3 soon3 go4 soon4 go1", "failed"),
                ((PUT_A, seen_b, seen_a, PUT_A, put("d")), "go1 go2 go2 soon2 go1 go1 go3 soon3 go4 soon4", "refused"),
                ((PUT_A, MANY, PUT_A, put("c"), put("d")), "go1 " * 64 + "go2 soon2 go3 soon3 go4 soon4 go1", "full")):
            for words_behind, last in (("vacuum", 4), ("", 0)):
                schedule = steps("go0", "soon0", *words.split(), *words_behind.split()) + (("cut", ()),)
                account = self.check(64, 4, (programs, schedule, 0))
                self.assertEqual((account["ends"][1], account["cuts"][0][1]), (ends, last))
        held = Program((("get", "n", A), ("get", "n", A)))
        schedule = steps("go0", "soon0", "go1", "go2", "soon2", "go3", "soon3", "go4", "soon4",
                         "vacuum") + (("cut", ()),)
        account = self.check(64, 4, ((PUT_A, held, PUT_A, put("c"), put("d")), schedule, 0))
        self.assertEqual((account["ends"][1], account["cuts"][0][1]), ("lost", 0))

    def test_keys_that_are_words(self):
        for word in ("over", "failed", "get", "none"):
            program = Program((("get", "n", ("key", word)), ("put", ("key", word), ONE)))
            self.assertEqual(self.check(40, 8, ((program,), (("go", 0),) * 3, 0))["state"], {word: 1})

    def test_lists_that_were_returned_may_be_changed(self):
        play = ((PUT_A, COPY_AB, COPY_BA), steps("go0", "soon0", "go1", "go2", "go1", "go2", "go1", "go2")
                + (("cut", ()),) + steps("go1"), 1)
        first = played(40, 8, play)
        again = played(40, 8, play)
        for part in ("commits", "cuts", "refused", "state"):
            self.assertTrue(first[part])
            first[part].clear()
        first.clear()
        self.assertEqual(played(40, 8, play), again)
        self.check(40, 8, play)


class Wrong(unittest.TestCase):

    def check(self, thing):
        part = plain_play(thing)
        if part is None:
            played(24, 8, thing)
            return None
        with self.assertRaises(NoPlay) as caught:
            played(24, 8, thing)
        self.assertEqual((caught.exception.part, type(caught.exception.part)), (part, type(part)))
        return part

    def test_things_of_all_kinds(self):
        right = ((PUT_A,), (("go", 0),), 0)
        for thing in [*things(), PUT_A, (PUT_A,), (PUT_A, PUT_A)]:
            self.check(thing)
            self.check((thing, right[1], right[2]))
            self.check((right[0], thing, right[2]))
            self.check((*right[:2], thing))
            self.check(((PUT_A, thing), *right[1:]))
            self.check((right[0], (("go", 0), thing), 0))
            for word in ("go", "soon", "out", "reach", "cut", "force", "vacuum", "check"):
                self.check((right[0], (("force",), (word, thing)), 0))
            self.check((right[0], ((thing, 0),), 0))
            self.check((right[0], ((thing,),), 0))
            self.check((*right, thing))

    def test_parts_in_their_order(self):
        self.assertEqual(self.check(((), [], True)), "programs")
        self.assertEqual(self.check(([PUT_A], 5, -1)), "programs")
        self.assertEqual(self.check(((PUT_A,) * 7, (), 0)), "programs")
        self.assertEqual(self.check(((PUT_A,), [], 9)), "schedule")
        self.assertEqual(self.check(((PUT_A,), (("force",),) * 401, 9)), "schedule")
        self.assertEqual(self.check(((PUT_A,), (("no",),), 6)), "tries")
        self.assertEqual(self.check(((PUT_A,), (("force",), ("no",), 5), 5)), 1)
        self.assertIsNone(self.check(((PUT_A,) * 6, (("force",),) * 400, 5)))

    def test_steps(self):
        for step, right in ((("go", 1), True), (("go", 2), False), (("go", -1), False), (("go", True), False),
                            (("go",), False), (("soon", 1), True), (("soon", 2), False), (("out", 0), True),
                            (("out", BOUND), True), (("out", BOUND + 1), False), (("reach", BOUND), True),
                            (("reach", BOUND + 1), False), (("reach", -1), False), (("cut", ()), True),
                            (("cut", (0, 5, BOUND)), True), (("cut", (0, BOUND + 1)), False), (("cut", (5, 0)), False),
                            (("cut", [0]), False), (("cut", 0), False), (("cut",), False), (("force", 0), False),
                            (("check", ()), False), (["force"], False), (("force",), True), (("vacuum",), True),
                            (("check",), True), (("go", 0, 0), False), ((), False), ("force", False),
                            (("cut", (True,)), False), (("Force",), False)):
            self.assertEqual(self.check(((PUT_A, PUT_A), (("force",), step), 0)), None if right else 1, step)

    def test_bad_disks_come_first(self):
        for blocks, ring in ((15, 4), (601, 8), (24, 3), (24, 17), (True, 8), ("24", 8), (24, None)):
            self.assertRaises(BadDisk, played, blocks, ring, 5)
            self.assertRaises(BadDisk, played, blocks, ring, ((PUT_A,), (), 0))


if __name__ == "__main__":
    unittest.main()
