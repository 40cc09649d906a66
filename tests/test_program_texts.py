import random
import unittest

from wholecommits.errors import BadProgram, BadText
from wholecommits.parsing import program_text, read_program
from wholecommits.tongue import Program
from tests.test_programs import deep_not, left_sum
from tests.text_rules import expression_due, read_due, text_due
from tests.things import things
from tests.tongue_rules import RESERVED, SIGNS, drawn_program_block

BOUND = 10 ** 18
LINES = ["let x 1", "get n 'a'", "put 'a' (n + 1)", "drop 'abc'", "for k w 'a' 'z' do", "if (not (x = 'a')) do", "else",
         "while (x < 5) most 100 do", "end", "say x", "fail"]
RIGHT = "if x do\n{}\nend\n"


class Texts(unittest.TestCase):

    def check(self, text):
        """Read a text and compare; what is due."""
        due = read_due(text)
        if due and due[0] in (BadText, BadProgram):
            with self.assertRaises(due[0]) as caught:
                read_program(text)
            self.assertEqual(list(vars(caught.exception).values()), [due[1]], text)
        else:
            program = read_program(text)
            self.assertEqual((type(program), program.block), (Program, due), text)
            self.assertEqual(read_program(program_text(program)), program)
        return due

    def bad(self, text, line):
        self.assertEqual(self.check(text), (BadText, line), text)

    def good(self, text, block):
        self.assertEqual(self.check(text), block, text)

    def test_there_and_back(self):
        for seed in range(800):
            draw = random.Random(seed)
            program = Program(drawn_program_block(draw))
            text = program_text(program)
            self.assertEqual(text, text_due(program.block))
            self.assertEqual(read_program(text), program)
            self.good(text, program.block)

    def test_one_by_hand(self):
        block = (("get", "n", ("key", "a")), ("let", "x", ("not", ("<", ("name", "n"), ("num", -5)))),
                 ("for", "k", "k", ("key", "a"), ("name", "n"), (("put", ("name", "k"),
                                                                  ("mod", ("num", 7), ("num", 3))),
                                                                 ("if", ("num", 0), (), (("fail",),)))),
                 ("while", ("name", "x"), 100, (("say", ("key", "or")),
                                                ("if", ("num", 1), (("drop", ("key", "b")),), ()))))
        text = ("get n 'a'\nlet x (not (n < -5))\nfor k k 'a' n do\nput k (7 mod 3)\nif 0 do\nelse\nfail\nend\nend\n"
                "while x most 100 do\nsay 'or'\nif 1 do\ndrop 'b'\nend\nend\n")
        self.assertEqual(program_text(Program(block)), text)
        self.good(text, block)
        self.assertEqual((program_text(Program(())), read_program("")), ("", Program(())))

    def test_no_text(self):
        for thing in things():
            if type(thing) is str:
                self.check(thing)
            else:
                with self.assertRaises(BadText) as caught:
                    read_program(thing)
                self.assertEqual(caught.exception.line, 0)

    def test_lines_behind_one_another(self):
        """All rows of up to four lines of all forms."""
        rows = [[]]
        for _ in range(4):
            rows = [[*row, line] for row in rows for line in LINES]
            for row in rows:
                self.check("".join(line + "\n" for line in row))

    def test_each_line_spoilt_by_one_sign(self):
        for line in LINES:
            for at in range(len(line) + 1):
                for sign in [""] + list(" (')0-ax\nA,~"):
                    for spoilt in (line[:at] + sign + line[at + 1:], line[:at] + sign + line[at:]):
                        for around in ("{}\n", RIGHT, "{}\nend\n", "fail\n{}\n"):
                            self.check(around.format(spoilt))

    def test_drawn_texts_spoilt(self):
        found = {}
        for seed in range(600):
            draw = random.Random(seed)
            text = program_text(Program(drawn_program_block(draw, 5))) or "fail\n"
            for _ in range(12):
                due = self.check(spoilt(draw, text))
                kind = due[0] if due and due[0] in (BadText, BadProgram) else None
                found[kind] = found.get(kind, 0) + 1
        self.assertGreater(found[BadText], 1000)
        self.assertGreater(found[None], 500)

    def test_blanks(self):
        for line in ("let  x 1", " let x 1", "let x 1 ", "let x  1", "say ( x + 1)", "say (x + 1 )", "say (x  + 1)",
                     "say (x +  1)", "say (x+1)", "say (x +1)", "say (x+ 1)", "say (not  x)", "say ( not x)",
                     "say (notx)",
                     "say (not x )", "put 'a' 1 ", "put 'a'  1", "put 'a'1", "fail ", " fail", "if x  do", "if x do ",
                     "while x most  5 do", "while x  most 5 do", "say ' a'", "say 'a '", "say\tx", "say", "say ", "",
                     " "):
            self.bad(line + "\nend\n", 1)
            self.bad("fail\nif x do\n" + line + "\nend\nend\n", 3)

    def test_brackets(self):
        for text in ("x)", "(x", "(x)", "((x + 1)", "(x + 1))", "()", "(", ")", "x + 1", "not x", "(not)", "(not x x)",
                     "(x + 1 + 2)", "(+ 1 2)", "(1 2 +)", "(1 2)", "(x not x)", "(not x) 1", "((not x))", "[x + 1]",
                     "(x, 1)",
                     "(x + )", "( + x)", "(x ++ 1)", "(x - -)", "(x == 1)", "(x > 1)", "(x & 1)", "(x % 2)", "(x x x)",
                     "(x let 1)", "(x most 1)", ")x(", "(x + 1)(", "(x + 1)2", "1(x + 1)", "x(", "(not (not x)", "'a",
                     "a'", "''",
                     "'A'", "'a b'", "'" + "a" * 13 + "'", "\"a\"", "''a''", "'a'b", "'(a'", "'let"):
            self.bad("say " + text + "\n", 1)
            self.bad("put 'a' " + text + "\n", 1)
            self.bad("put " + text + " 'a'\n", 1)
        for text, expression in (("(x - -1)", ("-", ("name", "x"), ("num", -1))), ("'let'", ("key", "let")),
                                 ("(-1 - 1)", ("-", ("num", -1), ("num", 1))),
                                 ("(not 'not')", ("not", ("key", "not"))), ("num", ("name", "num"))):
            self.good("say " + text + "\n", (("say", expression),))

    def test_signs(self):
        for sign in SIGNS:
            self.good(f"say (1 {sign} x)\n", (("say", (sign, ("num", 1), ("name", "x"))),))
        for sign in ["not", "div", "**", "//", "<=", "!=", "", "num", "key", "AND", "is"]:
            self.bad(f"say (1 {sign} x)\n", 1)

    def test_numbers(self):
        for text, right in (("0", True), ("-0", False), ("00", False), ("01", False), ("-01", False), ("+1", False),
                            ("1.0", False), ("1_0", False), ("--1", False), ("-", False), (str(BOUND), True),
                            (str(-BOUND), True), (str(BOUND + 1), False), (str(-BOUND - 1), False), ("9" * 19, False),
                            ("1" * 20, False), ("1" + "0" * 19, False), ("1" * 6000, False), ("1e3", False),
                            ("0x1", False)):
            due = self.check(f"say {text}\n")
            self.assertEqual(due, (("say", ("num", int(text))),) if right else (BadText, 1))
        for text, due in (("1", None), ("100", None), ("0", BadProgram), ("101", BadProgram), ("-1", BadProgram),
                          ("9" * 19, BadProgram), ("-" + "9" * 19, BadProgram), ("1" * 20, BadText), ("-0", BadText),
                          ("01", BadText), ("x", BadText), ("(1 + 1)", BadText), ("", BadText), ("'a'", BadText)):
            told = self.check(f"while x most {text} do\nend\n")
            self.assertEqual(told[0] if due else None, due, text)

    def test_names(self):
        for word in [*RESERVED, "A", "a1", "z" * 9, "", "'a'", "1", "(x)"]:
            for line in (f"let {word} 1", f"get {word} 'a'", f"for {word} w 'a' 'a' do\nend",
                         f"for k {word} 'a' 'a' do\nend"):
                self.bad(line + "\n", 1)
        for word in [*RESERVED, "z" * 9]:
            self.bad(f"say {word}\n", 1)
        for word in ("z" * 8, "lets", "name", "num", "key", "number", "block"):
            self.good(f"let {word} {word}\n", (("let", word, ("name", word)),))
            self.good(f"for {word} {word} 'a' 'b' do\nend\n", (("for", word, word, ("key", "a"), ("key", "b"), ()),))

    def test_depth_and_parts(self):
        for deep in range(1, 40):
            text = "say " + expression_due(deep_not(deep)) + "\n"
            if deep <= 8:
                self.good(text, (("say", deep_not(deep)),))
            else:
                self.bad(text, 1)
        for parts in range(1, 80, 2):
            text = expression_due(left_sum(parts))
            if parts <= 40:
                self.good(f"put {text} {text}\n", (("put", left_sum(parts), left_sum(parts)),))
            else:
                self.bad(f"put 'a' {text}\n", 1)
                self.bad(f"put {text} 'a'\n", 1)
            if parts == 39:
                self.good(f"say (not {text})\n", (("say", ("not", left_sum(39))),))
        self.bad("say " + "(" * 20000 + "\n", 1)
        self.bad("say " + "(not " * 9000 + "x" + ")" * 9000 + "\n", 1)
        self.bad("say " + ")" * 20000 + "\n", 1)

    def test_ends_and_elses(self):
        self.bad("end\n", 1)
        self.bad("else\n", 1)
        self.bad("if x do\nend\nend\n", 3)
        self.bad("if x do\nelse\nelse\nend\n", 3)
        self.bad("while x most 1 do\nelse\nend\n", 2)
        self.bad("for k w 'a' 'b' do\nelse\nend\n", 2)
        self.bad("if x do\nfor k w 'a' 'b' do\nelse\nend\nend\n", 3)
        self.bad("if x do\n", 2)
        self.bad("if x do\nelse\n", 3)
        self.bad("if x do\nif x do\nend\n", 4)
        self.bad("while x most 1 do\nfail\n", 3)
        self.bad("if x do\nend", 2)
        self.bad("fail", 1)
        self.bad("fail\nfail", 2)
        self.bad("fail\n\n", 2)
        self.bad("fail\n ", 2)
        self.bad("if x do\nno", 2)
        self.bad("if x do\nno\n", 2)
        self.good("if x do\nelse\nend\n", (("if", ("name", "x"), (), ()),))
        self.good("if x do\nfail\nelse\nend\n", (("if", ("name", "x"), (("fail",),), ()),))
        self.assertEqual(program_text(read_program("if x do\nfail\nelse\nend\n")), "if x do\nfail\nend\n")
        self.good("if x do\nelse\nfail\nend\n", (("if", ("name", "x"), (), (("fail",),)),))
        self.good("if x do\nif 1 do\nelse\nend\nelse\nfail\nend\n",
                  (("if", ("name", "x"), (("if", ("num", 1), (), ()),), (("fail",),)),))

    def test_programs_that_are_none(self):
        self.assertEqual(self.check("fail\n" * 80)[0], ("fail",))
        self.assertEqual(self.check("fail\n" * 81), (BadProgram, ()))
        for deep in range(1, 8):
            text = "if x do\n" * (deep - 1) + "fail\n" + "end\n" * (deep - 1)
            if deep <= 5:
                self.assertEqual(len(self.check(text)), 1)
            else:
                self.assertEqual(self.check(text), (BadProgram, (0,) * 9))
        self.assertEqual(self.check("while 1 most 0 do\nend\n" + "fail\n" * 90), (BadProgram, (0,)))
        self.bad("while 1 most 0 do\nend\n" + "fail\n" * 90 + "no\n", 93)
        deep = "if 1 do\n" * 3000
        self.assertEqual(self.check(deep + "end\n" * 3000), (BadProgram, (0,) * 9))
        self.bad(deep, 3001)


def spoilt(draw, text):
    """A text with one sign, word or line being another one, lacking, twice or elsewhere."""
    way = draw.randrange(8)
    at = draw.randrange(len(text))
    if way == 0:
        return text[:at] + text[at + 1:]
    if way == 1:
        return text[:at] + draw.choice(" \n()'-0a1x") + text[at + draw.randrange(2):]
    lines = text.split("\n")
    row = draw.randrange(len(lines))
    other = draw.randrange(len(lines))
    if way == 2:
        del lines[row]
    elif way == 3:
        lines.insert(row, lines[row])
    elif way == 4:
        lines[row], lines[other] = lines[other], lines[row]
    elif way == 5:
        lines.insert(row, draw.choice(LINES))
    else:
        words = lines[row].split(" ")
        word = draw.randrange(len(words))
        if way == 6:
            words[word] = draw.choice(["x", "1", "'a'", "-1", "01", "do", "most", "+", "and", "let", "(x + 1)", ""])
        else:
            words.insert(word, draw.choice(["x", "1", "(not", "do", ""]))
        lines[row] = " ".join(words)
    return "\n".join(lines)


if __name__ == "__main__":
    unittest.main()
