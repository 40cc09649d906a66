import unittest

from wholecommits.desk import tale
from wholecommits.judges import Dealing, ring, serial_order, ties, worths_behind
from wholecommits.log import Log, formatted
from wholecommits.pages import Pages
from wholecommits.parsing import program_text
from wholecommits.recovery import meaning
from wholecommits.running import Hand, plain_run
from wholecommits.serial import Check
from wholecommits.store import new_store
from wholecommits.tongue import Program
from wholecommits.vacuum import harm, needed


class Examples(unittest.TestCase):

    def test_e01(self):
        one = Dealing(0, 1, (), (), (("a", 5),))
        two = Dealing(0, 2, ("a",), (), (("b", 6),))
        looker = Dealing(1, None, ("a",), (("b", "c", ()),), ())
        self.assertEqual(
            (ties((one, two, looker)), ring((one, two, looker)), serial_order((one, two)),
             worths_behind((one, two), (1, 0))),
            ([(0, 2), (1, 0), (2, 1)], (0, 2, 1), (1, 0), {"a": 5, "b": 6}))

    def test_e02(self):
        c = Check(0)
        self.assertEqual(
            (c.opens(0), c.opens(0), c.opens(0), c.commits(0, (), (), (("a", 5),)),
             c.commits(1, ("a",), (), (("b", 6),)), c.remembered()),
            (0, 1, 2, 1, 2, (0, 1)))

    def test_e03(self):
        self.assertEqual(
            (needed([(9, None), (7, 4), (3, 5)], (4,), 9), needed([(9, None), (7, 4)], (), 9),
             harm([(7, 4), (3, 5)], (4,), 7, 3)),
            ((3, 9), (), 4))

    def test_e04(self):
        p = Program((("get", "n", ("key", "a")), ("put", ("key", "a"), ("+", ("name", "n"), ("num", 1)))))
        self.assertEqual((plain_run(p, {"a": 4}), program_text(p), Hand(p).asks()),
                         (("over", (), {"a": 5}), "get n 'a'\nput 'a' (n + 1)\n", ("get", "a")))

    def test_e05(self):
        self.assertEqual(tale(64, 24, ["begin t", "put t a 5", "commit t", "cut", "show a", "last"]),
                         ["ok", "ok", "1", "ok", "5", "1"])

    def test_e06(self):
        d = formatted(24, 8)
        g = Log(d)
        self.assertEqual(
            (d.lying(0), g.append(("a", 1)), d.waiting(), g.forced(), g.force(0), d.lying(1), g.forced()),
            (("master", 1, 8, 0, 0, 0), 0, {1: 1}, -1, None, (0, 1, 0, 0, "a", 1), 0))

    def test_e07(self):
        p = Pages(formatted(24, 8))
        b = p.batch()
        self.assertEqual(
            (b.take_page(), b.put(1, ("leaf", 5)), b.done(("note",)), p.held(1), p.dirty(), p.notes()),
            (1, None, 0, ("leaf", 5), (0, 1), [(0, ("note",))]))

    def test_e08(self):
        s = new_store(64, 24)
        t = s.begin()
        self.assertEqual((s.put(t, "a", 5), s.commit(t), s.now(), s.lasting(), meaning(s.disk())),
                         (None, 1, {"a": 5}, 1, {"a": 5}))


if __name__ == "__main__":
    unittest.main()
