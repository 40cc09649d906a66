import random
import unittest

from wholecommits.desk import Desk, tale
from wholecommits.errors import (BadDisk, InUse, NoBlock, NoLine, NoLines, NoName, NoNumber, NoPage, NoRoom,
                                 NothingWaits, Refused, StoreError, TooLarge)
from wholecommits.store import new_store
from tests.log_rules import pages_in, written
from tests.store_rules import KEYS, WORTHS, Beside, opened_behind_cut
from tests.things import plain_integer, plain_key, things
from tests.tongue_rules import RESERVED, plain_name

BOUND = 10 ** 18
NAMES = ["t", "u", "v", "name"]
FORMS = {"begin": "T", "get": "TK", "put": "TKW", "drop": "TK", "range": "TKK", "abort": "T", "commit": "T",
         "soon": "T", "snapshot": "T", "show": "K", "state": "", "versions": "K", "debt": "", "sweep": "N",
         "vacuum": "", "force": "", "check": "", "dirty": "", "out": "N", "reach": "N", "last": "", "lasting": "",
         "cut": ""}
SAMPLES = {"T": "t", "K": "a", "W": "-5", "N": "1"}


def shown(mark):
    return "none" if mark is None else str(mark)


def row(words):
    return " ".join(str(word) for word in words) or "none"


def pairs(rows):
    return row(f"{one}={shown(other)}" for one, other in rows)


def is_integer_word(word, low, high):
    """Whether a word is a decimal integer within bounds, in its only form."""
    try:
        return str(int(word)) == word and low <= int(word) <= high
    except ValueError:
        return False


def words_due(line):
    """The words of a line of a right form, None for another one."""
    if type(line) is not str:
        return None
    words = line.split(" ")
    if words[0] not in FORMS or len(words) != 1 + len(FORMS[words[0]]):
        return None
    judges = {"T": plain_name, "K": plain_key, "W": lambda word: is_integer_word(word, -BOUND, BOUND),
              "N": lambda word: is_integer_word(word, 0, BOUND)}
    right = all(judges[kind](word) for kind, word in zip(FORMS[words[0]], words[1:]))
    return words if right else None


class Model:
    """What a desk is to tell, by a store beside plain dicts."""

    def __init__(self, case, blocks, ring):
        self.case = case
        self.beside = Beside(case, new_store(blocks, ring), [{}], {})
        self.numbers = {}

    def told(self, line):
        """What a line is to tell, or the class of the error that it is to raise."""
        words = words_due(line)
        if words is None:
            return NoLine
        word, *parts = words
        if word == "begin":
            if parts[0] in self.numbers:
                return InUse
            self.numbers[parts[0]] = self.beside.begin()
            return "ok"
        if "T" in FORMS[word]:
            return self.of_one(word, *parts) if parts[0] in self.numbers else NoName
        told = self.of_all(word, *parts)
        self.beside.compare()
        return told

    def of_one(self, word, name, *parts):
        beside = self.beside
        number = self.numbers[name]
        one = beside.open[number]
        if word == "get":
            beside.get(number, parts[0])
            return shown(one.state.get(parts[0]))
        if word == "range":
            beside.between(number, *parts)
            return pairs(sorted(pair for pair in one.state.items() if parts[0] <= pair[0] <= parts[1]))
        if word == "snapshot":
            return str(one.snapshot)
        if word == "put":
            beside.put(number, parts[0], int(parts[1]))
            return "ok"
        if word == "drop":
            beside.drop(number, *parts)
            return "ok"
        told = "ok"
        if word == "abort":
            beside.abort(number)
        else:
            failed = (beside.too_large, beside.no_room)
            commit = beside.last() + 1 if one.marks else None
            came = beside.commit(number, word == "soon")
            if came == "Refused":
                return Refused
            if came != "done":
                return TooLarge if beside.too_large > failed[0] else NoRoom
            told = shown(commit)
        del self.numbers[name]
        return told

    def of_all(self, word, *parts):
        beside = self.beside
        if word == "show":
            return shown(beside.dicts[-1].get(parts[0]))
        if word == "state":
            return pairs(sorted(beside.dicts[-1].items()))
        if word == "versions":
            return pairs(sorted(beside.versions.get(parts[0], {}).items(), reverse=True))
        if word == "debt":
            return str(len(beside.takeable()))
        if word == "sweep":
            if not 1 <= int(parts[0]) <= 1000:
                return NoNumber
            many = beside.sweep(int(parts[0]))
            return TooLarge if many is None else str(many)
        if word == "vacuum":
            many = beside.vacuum()
            return TooLarge if many is None else str(many)
        if word in ("last", "lasting"):
            return str({"last": beside.last, "lasting": beside.lasting}[word]())
        if word in ("force", "check"):
            {"force": beside.force, "check": beside.checkpoint}[word]()
        return self.of_blocks(word, *parts)

    def of_blocks(self, word, *parts):
        beside = self.beside
        dirty = pages_in(written(beside.disk))[2]
        if word == "dirty":
            return row(dirty)
        if word == "out":
            if int(parts[0]) >= pages_in(written(beside.disk))[0][0][2]:
                return NoPage
            beside.write_out(int(parts[0]))
            return "yes" if int(parts[0]) in dirty else "no"
        if word == "reach":
            if int(parts[0]) >= beside.disk.blocks():
                return NoBlock
            if int(parts[0]) not in beside.disk.waiting():
                return NothingWaits
            beside.disk.reach(int(parts[0]))
        if word == "cut":
            self.beside = opened_behind_cut(beside)
            self.numbers = {}
        return "ok"


class Desks(unittest.TestCase):

    def tell(self, desk, model, line):
        due = model.told(line)
        if isinstance(due, str):
            told = desk.tell(line)
            self.assertEqual((told, type(told)), (due, str), line)
            return told
        with self.assertRaises(StoreError) as caught:
            desk.tell(line)
        self.assertIs(type(caught.exception), due, line)
        if due is NoName:
            self.assertEqual(caught.exception.name, line.split(" ")[1])
        return f"({due.__name__})"

    def test_drawn_lines(self):
        found = {}
        for seed in range(250):
            draw = random.Random(seed)
            blocks, ring = draw.choice([(40, 8), (64, 20), (40, 4), (16, 8)])
            desk = Desk(blocks, ring)
            model = Model(self, blocks, ring)
            lines = [drawn_line(draw) for _ in range(120)]
            told = [self.tell(desk, model, line) for line in lines]
            self.assertEqual(tale(blocks, ring, draw.choice([list, tuple])(lines)), told)
            for word in told:
                if word.startswith("("):
                    found[word] = found.get(word, 0) + 1
        for error in (NoLine, InUse, NoName, Refused, NoNumber, NoPage, NoBlock, NothingWaits):
            self.assertGreater(found.get(f"({error.__name__})", 0), 15, found)

    def test_many_keys(self):
        found = {}
        for seed in range(40):
            draw = random.Random(seed)
            blocks, ring = draw.choice([(60, 4), (16, 8), (30, 20)])
            keys = [one + other for one in "abcdefg" for other in "abcdefg"]
            lines = []
            for _ in range(6):
                lines.append("begin t")
                lines += [f"put t {key} {draw.choice(WORTHS)}" for key in draw.sample(keys, draw.choice([3, 9, 30]))]
                lines += [draw.choice(["commit t", "soon t"]), "state", "lasting", "last", "sweep 1000", "vacuum",
                          "dirty", draw.choice(["abort t", "commit t"])]
            desk = Desk(blocks, ring)
            model = Model(self, blocks, ring)
            told = [self.tell(desk, model, line) for line in lines]
            self.assertEqual(tale(blocks, ring, lines), told)
            for word in told:
                found[word] = found.get(word, 0) + 1
        self.assertGreater(min(found["(TooLarge)"], found["(NoRoom)"]), 10)

    def test_one_by_hand(self):
        lines = ["begin t", "get t a", "put t a 5", "put t b -7", "drop t c", "get t a", "range t a z", "snapshot t",
                 "state", "commit t", "state", "show a", "show c", "versions c", "versions q", "begin t", "begin u",
                 "snapshot u", "drop t a", "soon t", "last", "lasting", "show a", "get u a", "range u c d",
                 "versions a", "debt", "commit u", "debt", "dirty", "out 0", "out 0", "dirty", "lasting", "vacuum",
                 "versions a", "versions c", "sweep 5", "cut", "versions c", "state", "begin u", "commit u", "force",
                 "check", "dirty", "reach 0"]
        self.assertEqual(tale(64, 24, lines), [
            "ok", "none", "ok", "ok", "ok", "5", "a=5 b=-7", "0", "none",
            "1", "a=5 b=-7", "5", "none", "1=none", "none", "ok", "ok", "1",
            "ok", "2", "2", "1", "none", "5", "none", "2=none 1=5", "1", "none",
            "3", "0 1", "yes", "no", "1", "2", "3", "none", "none", "0",
            "ok", "1=none", "b=-7", "ok", "none", "ok", "ok", "none", "(NothingWaits)"])

    def test_refused(self):
        lines = ["begin t", "begin u", "get t a", "put t b 1", "get u b", "put u a 1", "commit t", "commit u",
                 "get u a", "soon u", "abort u", "abort u", "state"]
        self.assertEqual(tale(64, 24, lines), ["ok", "ok", "none", "ok", "none", "ok", "1", "(Refused)", "1",
                                               "(Refused)", "ok", "(NoName)", "b=1"])
        desk = Desk(64, 24)
        for line in lines[:7]:
            desk.tell(line)
        with self.assertRaises(Refused) as caught:
            desk.tell("commit u")
        self.assertEqual(caught.exception.ring, (1, 0))

    def test_a_cut(self):
        lines = ["begin t", "put t a 1", "soon t", "begin t", "put t a 2", "commit t", "begin u", "put u a 3", "soon u",
                 "begin t", "cut", "last", "lasting", "state", "get t a", "commit u", "begin t", "snapshot t",
                 "put t a 9", "soon t", "reach 3", "cut", "state", "last"]
        self.assertEqual(tale(64, 24, lines), [
            "ok", "ok", "1", "ok", "ok", "2", "ok", "ok", "3", "ok",
            "ok", "2", "2", "a=2", "(NoName)", "(NoName)", "ok", "2", "ok", "3", "ok", "ok", "a=9", "3"])

    def test_each_form(self):
        for word, form in FORMS.items():
            desk = Desk(64, 24)
            if form[:1] == "T" and word != "begin":
                desk.tell("begin t")
            line = " ".join([word] + [SAMPLES[kind] for kind in form])
            if word == "reach":
                self.assertRaises(NothingWaits, desk.tell, line)
            elif word == "out":
                self.assertRaises(NoPage, desk.tell, line)
                self.assertEqual(desk.tell("out 0"), "no")
            else:
                self.assertIs(type(desk.tell(line)), str)
            for other in (line + " ", " " + line, line + "\n", line + " x", line.replace(" ", "  "), line.upper(),
                          line.rsplit(" ", 1)[0] + (" " if form else "s"), line + " t", "\n" + line):
                if other != line:
                    self.assertRaises(NoLine, desk.tell, other)

    def test_lines_with_a_sign_more_or_less(self):
        for word, form in FORMS.items():
            line = " ".join([word] + [SAMPLES[kind] for kind in form])
            others = {line[:at] + sign + line[at + cut:] for at in range(len(line) + 1)
                      for sign in ["", *" \n-0a1A~"] for cut in (0, 1)}
            for other in sorted(others):
                desk = Desk(24, 8)
                model = Model(self, 24, 8)
                for first in ("begin t", other):
                    self.tell(desk, model, first)

    def test_things_that_are_no_lines(self):
        desk = Desk(64, 24)
        for thing in things():
            if words_due(thing) is None:
                self.assertRaises(NoLine, desk.tell, thing)
                self.assertEqual(tale(64, 24, [thing, "last"]), ["(NoLine)", "0"])

    def test_names(self):
        for name in [*RESERVED, "a", "z" * 8, "z" * 9, "", "A", "t1", "T", "none", "begin", "cut"]:
            desk = Desk(64, 24)
            if plain_name(name):
                self.assertEqual(desk.tell(f"begin {name}"), "ok")
                self.assertRaises(InUse, desk.tell, f"begin {name}")
                self.assertEqual(desk.tell(f"commit {name}"), "none")
                with self.assertRaises(NoName) as caught:
                    desk.tell(f"commit {name}")
                self.assertEqual(caught.exception.name, name)
            else:
                self.assertRaises(NoLine, desk.tell, f"begin {name}")
                self.assertRaises(NoLine, desk.tell, f"commit {name}")

    def test_the_order_of_errors(self):
        desk = Desk(64, 24)
        for line in ("get t A", "put t a x", "put t a 01", "drop t", "range t a B", "snapshot let"):
            self.assertRaises(NoLine, desk.tell, line)
        for line in ("get t a", "put t a 1", "drop t a", "range t b a", "snapshot t", "abort t", "commit t", "soon t"):
            self.assertRaises(NoName, desk.tell, line)
        desk.tell("begin t")
        self.assertRaises(NoLine, desk.tell, "begin T")
        self.assertRaises(InUse, desk.tell, "begin t")
        self.assertEqual(desk.tell("range t b a"), "none")

    def test_worths_and_numbers(self):
        for word, right in (("0", True), ("-0", False), ("00", False), ("01", False), ("-1", True), ("--1", False),
                            ("+1", False), (str(BOUND), True), (str(-BOUND), True), (str(BOUND + 1), False),
                            (str(-BOUND - 1), False), ("1" * 400, False), ("1" * 5000, False), ("", False),
                            ("x", False), ("1.", False), ("1_0", False), ("none", False)):
            told = tale(64, 24, ["begin t", f"put t a {word}", "get t a"])
            self.assertEqual(told[1:], ["ok", word] if right else ["(NoLine)", "none"])
        for word, told in (("0", "(NoNumber)"), ("1", "0"), ("1000", "0"), ("1001", "(NoNumber)"),
                           (str(BOUND), "(NoNumber)"), (str(BOUND + 1), "(NoLine)"), ("-1", "(NoLine)"),
                           ("-0", "(NoLine)"), ("01", "(NoLine)")):
            self.assertEqual(tale(64, 24, [f"sweep {word}"]), [told])
            self.assertEqual(tale(64, 24, [f"out {word}"]),
                             ["no" if word == "0" else told if told == "(NoLine)" else "(NoPage)"])
            self.assertEqual(tale(64, 24, [f"reach {word}"]),
                             [told if told == "(NoLine)" else "(NothingWaits)" if word in ("0", "1") else "(NoBlock)"])
        self.assertEqual(tale(64, 24, ["reach 63", "reach 64"]), ["(NothingWaits)", "(NoBlock)"])

    def test_wrong_disks_and_no_lines(self):
        for thing in things():
            if not plain_integer(thing, 16, 600):
                self.assertRaises(BadDisk, Desk, thing, 8)
                self.assertRaises(BadDisk, tale, thing, 8, None)
            if not plain_integer(thing, 4, 56):
                self.assertRaises(BadDisk, Desk, 64, thing)
                self.assertRaises(BadDisk, tale, 64, thing, [])
            if type(thing) in (list, tuple):
                told = ["ok" if line in ("force", "check", "cut") else "(NoLine)" for line in thing]
                self.assertEqual(tale(64, 24, thing), told)
            else:
                self.assertRaises(NoLines, tale, 64, 24, thing)
        self.assertEqual((tale(64, 24, ()), tale(64, 24, ["last", 5, "last"])), ([], ["0", "(NoLine)", "0"]))


def drawn_line(draw):
    """A line of any form, now and then with a sign, or a blank, that is wrong."""
    word = draw.choice("""begin begin begin begin get get put put put put drop range commit commit soon soon abort
                          snapshot show state versions debt sweep vacuum force check dirty out out reach reach last
                          lasting cut""".split())
    if word == "cut" and draw.random() < 0.7:
        word = "commit"
    parts = {"T": lambda: draw.choice(NAMES), "K": lambda: draw.choice(KEYS[:5]), "W": lambda: str(draw.choice(WORTHS)),
             "N": lambda: str(draw.choice([0, 1, 2, 3, 9, 10, 22, 600, BOUND]))}
    line = " ".join([word] + [parts[kind]() for kind in FORMS[word]])
    if draw.random() < 0.06:
        at = draw.randrange(len(line) + 1)
        line = line[:at] + draw.choice(["", " ", "a", "1", "-", "\n", "A"]) + line[at + draw.randrange(2):]
    if draw.random() < 0.01:
        return draw.choice([None, 5, "", [line], b"last", (line,)])
    return line


if __name__ == "__main__":
    unittest.main()
