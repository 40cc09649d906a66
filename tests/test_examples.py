import unittest

from wholecommits.log import Log, formatted
from wholecommits.pages import Pages


class Examples(unittest.TestCase):

    def test_e06(self):
        d = formatted(24, 8)
        g = Log(d)
        self.assertEqual(
            (d.lying(0), g.append(("a", 1)), d.waiting(), g.forced(), g.force(0), d.lying(1), g.forced()),
            (("master", 1, 8, 0, 0, 0), 0, {1: 1}, -1, None, (0, 1, 0, 0, "a", 1), 0))

    def test_e07(self):
        p = Pages(formatted(24, 8))
        b = p.batch()
        self.assertEqual(
            (b.take_page(), b.put(1, ("leaf", 5)), b.done(("note",)), p.held(1), p.dirty(), p.notes()),
            (1, None, 0, ("leaf", 5), (0, 1), [(0, ("note",))]))


if __name__ == "__main__":
    unittest.main()
