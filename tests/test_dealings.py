import unittest

from wholecommits.errors import BadDealing, BadHistory
from wholecommits.judges import (Dealing, first_failure, has_seen, is_ring, is_serial_order, lost_updates, many_orders,
                                 prefix, ring, sees, serial_order, ties, worths_behind)
from tests.things import nested, plain_integer, plain_keys, plain_ranges, plain_writes, things

LOOKER = (3, None, ("a",), (("a", "b", ("b",)),), ())
WRITER = (3, 5, ("a",), (("a", "b", ("b",)),), (("a", 1), ("b", None)))
PARTS = ("snapshot", "number", "gets", "ranges", "writes")


def all_judges(history):
    """Each function that takes a history, called with it and with what is wrong else."""
    return [lambda: sees(history, None, None), lambda: has_seen(history, None, None), lambda: ties(history),
            lambda: is_serial_order(history, None), lambda: first_failure(history, None), lambda: ring(history),
            lambda: serial_order(history), lambda: is_ring(history, None), lambda: many_orders(history),
            lambda: worths_behind(history, None), lambda: prefix(history, None), lambda: lost_updates(history)]


def plain_history(thing):
    """The index by which a thing is no history, None if it is one; written apart from the package."""
    if type(thing) is not tuple or len(thing) > 300:
        return -1
    for index, dealing in enumerate(thing):
        if type(dealing) is not Dealing:
            return index
        numbers = [other.number for other in thing[:index] if other.number is not None]
        if dealing.snapshot > len(numbers) or dealing.number not in (None, len(numbers) + 1):
            return index
    return None


class Dealings(unittest.TestCase):

    def refused(self, parts):
        with self.assertRaises(BadDealing) as caught:
            Dealing(*parts)
        return caught.exception.part

    def test_attributes(self):
        for parts in (LOOKER, WRITER, (0, None, (), (), ()), (10 ** 60, 10 ** 60 + 1, (), (), (("a", None),))):
            dealing = Dealing(*parts)
            self.assertEqual((dealing.snapshot, dealing.number, dealing.gets, dealing.ranges, dealing.writes), parts)
            self.assertEqual(sorted(vars(dealing)), sorted(PARTS))

    def test_equal(self):
        self.assertTrue(Dealing(*WRITER) == Dealing(*WRITER))
        self.assertFalse(Dealing(*WRITER) != Dealing(*WRITER))
        others = [(2, *WRITER[1:]), (3, 6, *WRITER[2:]), (3, 5, (), *WRITER[3:]), (*WRITER[:3], (), WRITER[4]),
                  (*WRITER[:4], (("a", 1), ("b", 0))), LOOKER]
        for other in others:
            self.assertTrue(Dealing(*WRITER) != Dealing(*other))
            self.assertFalse(Dealing(*WRITER) == Dealing(*other))
        for thing in things():
            self.assertFalse(Dealing(*WRITER) == thing)
        self.assertFalse(Dealing(*WRITER) == WRITER)

    def test_each_part(self):
        for thing in things():
            if not plain_integer(thing, 0, 10 ** 60):
                self.assertEqual(self.refused((thing, *WRITER[1:])), "snapshot")
                self.assertEqual(self.refused((thing, thing, thing, thing, thing)), "snapshot")
            if not plain_integer(thing, 4, 10 ** 60):
                self.assertEqual(self.refused((3, thing, *WRITER[2:])), "number")
                self.assertEqual(self.refused((3, thing, None, None, WRITER[4])), "number")
            if thing is not None:
                self.assertEqual(self.refused((3, thing, *LOOKER[2:])), "number")
            if not plain_keys(thing):
                self.assertEqual(self.refused((*WRITER[:2], thing, *WRITER[3:])), "gets")
                self.assertEqual(self.refused((*LOOKER[:2], thing, *LOOKER[3:])), "gets")
                self.assertEqual(self.refused((3, 5, thing, thing, [])), "gets")
            if not plain_ranges(thing):
                self.assertEqual(self.refused((*WRITER[:3], thing, WRITER[4])), "ranges")
                self.assertEqual(self.refused((3, None, (), thing, 7)), "ranges")
            if not plain_writes(thing):
                part = "number" if thing != () and type(thing) is tuple else "writes"
                self.assertEqual(self.refused((*LOOKER[:4], thing)), part)
                self.assertEqual(self.refused((*WRITER[:4], thing)), "writes")

    def test_what_may_be_passed(self):
        for thing in things():
            if plain_integer(thing, 0, 4):
                self.assertEqual(Dealing(thing, *WRITER[1:]).snapshot, thing)
            if plain_integer(thing, 4, 10 ** 60):
                self.assertEqual(Dealing(3, thing, *WRITER[2:]).number, thing)
            if plain_keys(thing):
                self.assertEqual(Dealing(0, None, thing, (), ()).gets, thing)
            if plain_ranges(thing):
                self.assertEqual(Dealing(0, None, (), thing, ()).ranges, thing)
            if plain_writes(thing) and thing:
                self.assertEqual(Dealing(0, 1, (), (), thing).writes, thing)

    def test_the_number_where_writes_are_no_tuple(self):
        for writes in (None, [], [("a", 1)], 5, "a", {"a": 1}, Dealing(*LOOKER)):
            for number in (None, 4, 10 ** 40):
                self.assertEqual(self.refused((3, number, (), (), writes)), "writes")
            for number in (3, 0, -1, True, "a", (4,), [4]):
                self.assertEqual(self.refused((3, number, (), (), writes)), "number")
        for writes in ((None,), (("a", "b"),), ("a",)):
            self.assertEqual(self.refused((3, None, (), (), writes)), "number")
            self.assertEqual(self.refused((3, 4, (), (), writes)), "writes")

    def test_the_first_of_two_is_told(self):
        wrong = (True, 3, ["a"], (("b", "a", ()),), (("b", 1), ("a", 1)))
        for first in range(5):
            for second in range(first, 5):
                parts = list(WRITER)
                parts[first] = wrong[first]
                parts[second] = wrong[second]
                self.assertEqual(self.refused(parts), PARTS[first])

    def test_what_is_nested(self):
        deep = nested(39, lambda inner: (inner,), ())
        self.assertEqual(self.refused((0, None, (deep,), (), ())), "gets")
        self.assertEqual(self.refused((0, None, (), (("a", "b", deep),), ())), "ranges")
        self.assertEqual(self.refused((0, 1, (), (), (("a", deep),))), "writes")


def looker(snapshot):
    return Dealing(snapshot, None, (), (), ())


def writer(snapshot, number):
    return Dealing(snapshot, number, (), (), (("a", 1),))


class Histories(unittest.TestCase):

    def check(self, history):
        wrong = plain_history(history)
        for call in all_judges(history):
            if wrong is None:
                try:
                    call()
                except BadHistory:
                    self.fail("a history was refused")
                except ValueError:
                    pass
            else:
                with self.assertRaises(BadHistory) as caught:
                    call()
                self.assertEqual(caught.exception.index, wrong)

    def test_things(self):
        for thing in things():
            self.check(thing)
            self.check((looker(0), writer(0, 1), thing))
            self.check((thing, thing))

    def test_numbers(self):
        one, two, three = writer(0, 1), writer(0, 2), writer(2, 3)
        for history in [(), (one,), (two,), (one, two), (two, one), (one, one), (one, three), (one, two, three),
                        (one, looker(1), two, looker(0), three), (looker(0), one), (looker(1), one), (one, looker(2)),
                        (one, two, looker(2), looker(3)), (one, writer(1, 2)), (one, two, two), (one, two, one),
                        (one, three, two), (looker(0), looker(0), two), [one], [], (one, [two]), (one, None)]:
            self.check(history)
        self.assertEqual(plain_history((one, looker(1), two, looker(0), three)), None)
        self.assertEqual(plain_history((one, two, looker(2), looker(3))), 3)

    def test_snapshots_too_great(self):
        # A dealing's number is above its snapshot, so the snapshot of a writer with the right one is never too great.
        self.check((looker(0), looker(10 ** 40)))
        self.check((writer(0, 1), writer(3, 4)))
        self.check((writer(0, 1), writer(1, 2), looker(2), looker(1), looker(3), writer(0, 4)))

    def test_long_ones(self):
        lookers = (looker(0),) * 299
        self.assertEqual(plain_history((*lookers, writer(0, 1))), None)
        self.check((*lookers, writer(0, 1)))
        self.check((*lookers, writer(0, 2)))
        self.check((*lookers, None))
        self.check((*lookers, writer(0, 1), None))
        self.check((*lookers, looker(0), writer(0, 1)))
        self.check((None,) * 301)
        self.check(tuple(writer(0, number) for number in range(1, 62)))


if __name__ == "__main__":
    unittest.main()
