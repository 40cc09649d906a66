import random
import re
import unittest

from wholecommits.errors import BadHistory, BadText
from wholecommits.histories import history_text, read_history
from wholecommits.judges import Dealing
from tests.test_judges import drawn_history
from tests.things import things

KEY = "[a-z]{1,12}"
NUMBER = "0|[1-9][0-9]{0,19}"
FORMS = {
    "deal": re.compile(f"deal ({NUMBER}) (-|{NUMBER})"),
    "saw": re.compile(f"saw ({KEY})"),
    "range": re.compile(f"range ({KEY}) ({KEY})(?: but ({KEY}(?: {KEY})*))?"),
    "put": re.compile(f"put ({KEY}) (0|-?[1-9][0-9]{{0,19}})"),
    "drop": re.compile(f"drop ({KEY})"),
}
KINDS = ["deal", "saw", "range", "put"]


def text_due(history):
    text = ""
    for dealing in history:
        text += "deal " + str(dealing.snapshot) + " " + ("-" if dealing.number is None else str(dealing.number)) + "\n"
        for key in dealing.gets:
            text += "saw " + key + "\n"
        for low, high, own in dealing.ranges:
            text += "range " + low + " " + high + (" but " + " ".join(own) if own else "") + "\n"
        for key, worth in dealing.writes:
            text += "drop " + key + "\n" if worth is None else "put " + key + " " + str(worth) + "\n"
    return text


def line_told(line):
    """The kind of a line, and what it tells; None for one without a form."""
    for kind, form in FORMS.items():
        found = form.fullmatch(line)
        if found is None:
            continue
        if kind == "deal":
            return "deal", (int(found[1]), None if found[2] == "-" else int(found[2]))
        if kind == "saw":
            return "saw", found[1]
        if kind == "range":
            return "range", (found[1], found[2], tuple(found[3].split(" ")) if found[3] else ())
        if kind == "drop":
            return "put", (found[1], None)
        return ("put", (found[1], int(found[2]))) if abs(int(found[2])) <= 10 ** 18 else None
    return None


def parts_right(deal):
    snapshot, number = deal["deal"]
    if (number is None) != (deal["put"] == []) or (number is not None and number <= snapshot):
        return False
    return all(low <= high and list(own) == sorted(set(own)) and all(low <= key <= high for key in own)
               for low, high, own in deal["range"])


def due(text):
    """What reading is to give: the rows of the dealings, or the class of the error and its field."""
    deals = []
    rows = text.split("\n")
    for at, line in enumerate(rows[:-1]):
        told = line_told(line)
        if told is None:
            return BadText, at + 1
        kind, thing = told
        if kind == "deal":
            deals.append({"line": at + 1, "deal": thing, "saw": [], "range": [], "put": []})
            continue
        if not deals or any(deals[-1][later] for later in KINDS[KINDS.index(kind) + 1:]):
            return BadText, at + 1
        if deals[-1][kind] and (deals[-1][kind][-1][0] >= thing[0] if kind == "put" else deals[-1][kind][-1] >= thing):
            return BadText, at + 1
        deals[-1][kind].append(thing)
    if rows[-1]:
        return BadText, len(rows)
    for deal in deals:
        if not parts_right(deal):
            return BadText, deal["line"]
    if len(deals) > 300:
        return BadHistory, -1
    last = 0
    for index, deal in enumerate(deals):
        snapshot, number = deal["deal"]
        if snapshot > last or (number is not None and number != last + 1):
            return BadHistory, index
        last += number is not None
    return tuple((*deal["deal"], tuple(deal["saw"]), tuple(deal["range"]), tuple(deal["put"])) for deal in deals)


def told(dealing):
    return dealing.snapshot, dealing.number, dealing.gets, dealing.ranges, dealing.writes


class Texts(unittest.TestCase):

    def check(self, text):
        """Read a text and compare; what is due."""
        expected = due(text)
        if expected and expected[0] in (BadText, BadHistory):
            with self.assertRaises(expected[0]) as caught:
                read_history(text)
            self.assertEqual(list(vars(caught.exception).values()), [expected[1]], text)
        else:
            history = read_history(text)
            self.assertIs(type(history), tuple)
            self.assertEqual(tuple(told(dealing) for dealing in history), expected)
            self.assertEqual(history_text(history), text)
        return expected

    def bad(self, text, line):
        self.assertEqual(self.check(text), (BadText, line), text)

    def test_there_and_back(self):
        for seed in range(200):
            draw = random.Random(seed)
            history = drawn_history(draw, draw.randrange(12), 3)
            text = history_text(history)
            self.assertEqual(text, text_due(history))
            self.assertEqual(read_history(text), history)
            self.assertEqual(len(self.check(text)), len(history))

    def test_one_by_hand(self):
        text = ("deal 0 1\nrange a c but b\nrange a c but b ba\nrange b c\nput a -5\ndrop b\nput zz 0\n"
                "deal 1 -\nsaw a\nsaw b\n")
        history = (Dealing(0, 1, (), (("a", "c", ("b",)), ("a", "c", ("b", "ba")), ("b", "c", ())),
                           (("a", -5), ("b", None), ("zz", 0))), Dealing(1, None, ("a", "b"), (), ()))
        self.assertEqual((history_text(history), read_history(text)), (text, history))

    def test_the_empty_text(self):
        self.assertEqual((history_text(()), read_history("")), ("", ()))
        self.bad("\n", 1)
        self.bad(" ", 1)
        self.bad("deal 0 -\n\n", 2)

    def test_no_text_and_no_history(self):
        for thing in things():
            if type(thing) is not str:
                with self.assertRaises(BadText) as caught:
                    read_history(thing)
                self.assertEqual(caught.exception.line, 0)
            else:
                self.check(thing)
            if type(thing) is not tuple or thing and type(thing[0]) is not Dealing:
                with self.assertRaises(BadHistory) as caught:
                    history_text(thing)
                self.assertEqual(caught.exception.index, 0 if type(thing) is tuple and len(thing) <= 300 else -1)
        with self.assertRaises(BadHistory) as caught:
            history_text((Dealing(0, 1, (), (), (("a", 1),)), Dealing(2, None, (), (), ())))
        self.assertEqual(caught.exception.index, 1)

    def test_300_dealings(self):
        for many in (300, 301):
            history = (Dealing(0, None, (), (), ()),) * many
            text = "deal 0 -\n" * many
            if many == 300:
                self.assertEqual((history_text(history), read_history(text)), (text, history))
            else:
                self.assertRaises(BadHistory, history_text, history)
                self.assertEqual(self.check(text), (BadHistory, -1))

    def test_spoilt_texts(self):
        found = {}
        for seed in range(1200):
            draw = random.Random(seed)
            text = history_text(drawn_history(draw, draw.randrange(1, 7), 3))
            for _ in range(25):
                result = self.check(spoilt(draw, text))
                kind = result[0] if result and result[0] in (BadText, BadHistory) else None
                found[kind] = found.get(kind, 0) + 1
        self.assertGreater(min(found.values()), 100)
        self.assertEqual(len(found), 3)

    def test_lines_at_wrong_places(self):
        self.bad("saw a\ndeal 0 -\n", 1)
        self.bad("put a 1\n", 1)
        self.bad("deal 0 -\nsaw a\nsaw a\n", 3)
        self.bad("deal 0 -\nsaw b\nsaw a\n", 3)
        self.bad("deal 0 -\nrange a b\nsaw a\n", 3)
        self.bad("deal 0 1\nput a 1\nsaw a\n", 3)
        self.bad("deal 0 1\ndrop a\nrange a b\n", 3)
        self.bad("deal 0 1\nput a 1\ndrop a\n", 3)
        self.bad("deal 0 1\ndrop b\nput a 1\n", 3)
        self.bad("deal 0 -\nrange a b but a\nrange a b\n", 3)
        self.bad("deal 0 -\nrange b c\nrange a z\n", 3)
        self.bad("deal 0 -\nrange a b\nrange a b\n", 3)
        self.check("deal 0 -\nsaw b\ndeal 0 -\nsaw a\n")
        self.check("deal 0 1\nsaw b\nrange a a\nput a 1\ndeal 0 2\nsaw a\nrange a a\ndrop a\n")

    def test_forms(self):
        for line in ("deal 0", "deal", "deal 0 0 0", "deal  0 -", "deal 0 -  ", " deal 0 -", "deal 0 - ", "Deal 0 -",
                     "deal -1 -", "deal +1 -", "deal 01 -", "deal 00 -", "deal - 1", "deal - -", "deal 0 --",
                     "deal 0 -1",
                     "deal 0 01", "deal 0 1.0", "deal x 1", "deal 0 None", "deal 1_0 -", "deal 0x1 -", "deal 0 +",
                     "deal " + "9" * 21 + " -", "deal 0 " + "1" * 21, "deal 0 " + "1" * 5000, "dealing 0 -",
                     "deals 0 -"):
            self.bad(line + "\n", 1)
            self.bad("deal 0 -\n" + line + "\nnothing\n", 2)
        for line in ("saw", "saw ", "saw A", "saw a b", "saw a1", "saw " + "a" * 13, " saw a", "saw  a", "saw a ",
                     "see a", "range a", "range", "range a b c", "range a b but", "range a b but ", "range a b but  c",
                     "range A b", "range a b but B", "range a b but b  c", "range a b BUT b", "range a b and b",
                     "range  a b", "put a", "put a ", "put a 01", "put a -0", "put a +1", "put a 1 ", "put  a 1",
                     "put a 1 1", "put A 1", "put a None", "put a none", "put a -", "put a --1", "put a 1_0",
                     f"put a {10 ** 18 + 1}", f"put a {-10 ** 18 - 1}", "put a " + "1" * 20, "put a " + "0" * 2,
                     "put a " + "9" * 6000, "drop", "drop a 1", "drop a None", "drop ", "drop A", "Drop a", "", " ",
                     "-", "but a"):
            self.bad("deal 0 1\n" + line + "\n", 2)
        for line in ("put a 0", f"put a {10 ** 18}", f"put a {-10 ** 18}", "put but -1", "drop put",
                     "put " + "a" * 12 + " 5"):
            self.assertEqual(len(self.check("deal 0 1\n" + line + "\n")), 1)
        for line in ("saw saw", "saw " + "a" * 12, "range but but but but", "range a z but but", "range deal saw"):
            self.assertEqual(len(self.check("deal 0 -\n" + line + "\n")), 1)

    def test_numbers_of_20_figures(self):
        big = "9" * 20
        self.assertEqual(self.check(f"deal {big} -\n"), (BadHistory, 0))
        self.assertEqual(self.check(f"deal 0 {big}\nput a 1\n"), (BadHistory, 0))
        self.bad(f"deal {big}9 -\n", 1)
        self.bad(f"deal 0 {big}9\nput a 1\n", 1)
        self.bad(f"deal {big} {big}\nput a 1\n", 1)

    def test_what_stands_behind_the_last_line_feed(self):
        for rest in ("deal 0 -", "x", " ", "saw a"):
            self.bad(rest, 1)
            self.bad("deal 0 -\n" + rest, 2)
            self.bad("deal 0 -\ndeal 7 7\n" + rest, 3)
            self.bad("deal 0 -\nnothing\n" + rest, 2)

    def test_parts_of_dealings_come_behind_all_lines(self):
        self.bad("deal 0 -\ndeal 0 -\nput a 1\n", 2)
        self.bad("deal 0 0\nput a 1\nnothing\n", 3)
        self.bad("deal 0 0\nput a 1\ndeal 0 -\n", 1)
        self.bad("deal 0 1\ndeal 0 -\nput a 1\nsaw b\n", 4)
        self.bad("deal 0 1\ndeal 0 -\nput a 1\n", 1)
        self.bad("deal 5 5\nput a 1\n", 1)
        self.bad("deal 5 4\nput a 1\n", 1)
        self.bad("deal 0 -\nrange b a\n", 1)
        self.bad("deal 0 -\ndeal 0 -\nrange a c but d\n", 2)
        self.bad("deal 0 -\nrange a c but c b\n", 1)
        self.bad("deal 0 -\nrange a c but b b\n", 1)
        self.assertEqual(self.check("deal 5 -\ndeal 0 -\n"), (BadHistory, 0))
        self.bad("deal 5 -\ndeal 0 1\n", 2)
        self.assertEqual(self.check("deal 0 2\nput a 1\n"), (BadHistory, 0))
        self.assertEqual(self.check("deal 0 1\nput a 1\ndeal 0 1\nput a 1\n"), (BadHistory, 1))
        self.assertEqual(self.check("deal 0 1\nput a 1\ndeal 2 -\n"), (BadHistory, 1))


def spoilt(draw, text):
    """A text with one sign, or one line, being another one, lacking, twice or elsewhere."""
    lines = text.split("\n")
    way = draw.randrange(7)
    at = draw.randrange(len(text))
    if way == 0:
        return text[:at] + text[at + 1:]
    if way == 1:
        return text[:at] + draw.choice(" \n-0a1z") + text[at + draw.randrange(2):]
    row = draw.randrange(len(lines))
    other = draw.randrange(len(lines))
    if way == 2:
        return "\n".join(lines[:row] + lines[row + 1:])
    if way == 3:
        return "\n".join(lines[:row + 1] + lines[row:])
    if way == 4:
        lines[row], lines[other] = lines[other], lines[row]
        return "\n".join(lines)
    words = lines[row].split(" ")
    word = draw.randrange(len(words))
    if way == 5:
        words[word] = draw.choice(["a", "0", "1", "2", "00", "-1", "-", "but", "put", "drop", "1" * 20, "1" * 21, ""])
    else:
        words.insert(word, draw.choice(["a", "1", "but", ""]))
    return "\n".join([*lines[:row], " ".join(words), *lines[row + 1:]])


if __name__ == "__main__":
    unittest.main()
