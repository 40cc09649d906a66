import itertools
import random
import unittest

from wholecommits.errors import BadHistory, NoIndex, NoKey, NoNumber, NoOrder, NotSerial, TooMany
from wholecommits.judges import (Dealing, first_failure, has_seen, is_ring, is_serial_order, lost_updates, many_orders,
                                 prefix, ring, sees, serial_order, ties, worths_behind)
from tests.dealing_rules import (KEYS, all_rings, drawn_keys, drawn_ranges, drawn_writes, failure, ring_of_all, row_of,
                                 serial_orders, ties_of)
from tests.things import plain_integer, plain_key, things


def drawn_history(draw, many, most_writes, late=None):
    """A history; late tells by how many commits a snapshot stands back at most, all of them if None."""
    dealings = []
    last = 0
    for _ in range(many):
        least = 0 if late is None else max(0, last - draw.randrange(late + 1))
        snapshot = draw.randint(least, last)
        writes = drawn_writes(draw, most_writes)
        dealings.append(Dealing(snapshot, last + 1 if writes else None, drawn_keys(draw, 2), drawn_ranges(draw, 1),
                                writes))
        last += 1 if writes else 0
    return tuple(dealings)


def rows_of(history):
    return {index: row_of(dealing) for index, dealing in enumerate(history)}


def first_order(many, pairs):
    """The first of all orders in which no tie leads back, None if there is none."""
    order = []
    while len(order) < many:
        free = [index for index in range(many) if index not in order
                and all(one in order for one, other in pairs if other == index)]
        if not free:
            return None
        order.append(free[0])
    return tuple(order)


def chain(many):
    """A history in which each dealing has to stand ahead of the one before, so that its one order is turned round."""
    keys = ["k" + "abcdefghijklmnopqrstuvwxyz"[at // 26] + "abcdefghijklmnopqrstuvwxyz"[at % 26] for at in range(many)]
    return tuple([Dealing(0, at + 1, (keys[at - 1],) if at else (), (), ((keys[at], at),)) for at in range(many)])


def closed(history):
    """A chain in which the first dealing has to stand ahead of the last one, too, by a further key."""
    first, last = history[0], history[-1]
    closing = Dealing(0, last.number, last.gets, (), (*last.writes, ("z", 1)))
    return (Dealing(0, 1, ("z",), (), first.writes), *history[1:-1], closing)


class Seen(unittest.TestCase):

    def test_all_dealings_and_keys(self):
        for seed in range(60):
            draw = random.Random(seed)
            history = drawn_history(draw, draw.randrange(1, 9), 3)
            rows = rows_of(history)
            for index in rows:
                for key in [*KEYS, "ab", "cb", "m", "y"]:
                    numbers = [row.number for row in rows.values() if key in row.written
                               and row.number <= rows[index].snapshot]
                    self.assertEqual(sees(history, index, key), max(numbers, default=0))
                    self.assertIs(has_seen(history, index, key), rows[index].seen(key))

    def test_own_keys_of_ranges_are_not_seen(self):
        history = (Dealing(0, None, (), (("a", "c", ("b",)), ("b", "b", ("b",))), ()),
                   Dealing(0, None, ("b",), (("a", "c", ("b",)),), ()),
                   Dealing(0, None, (), (("a", "c", ("b",)), ("aa", "bb", ())), ()))
        self.assertEqual([has_seen(history, index, "b") for index in range(3)], [False, True, True])
        self.assertEqual([has_seen(history, 0, key) for key in ("a", "aa", "b", "bb", "c", "ca")],
                         [True, True, False, True, True, False])

    def test_wrong_things(self):
        history = drawn_history(random.Random(1), 4, 2)
        for function in (sees, has_seen):
            for thing in [*things(), 4, -1]:
                if not plain_integer(thing, 0, 3):
                    self.assertRaises(NoIndex, function, history, thing, None)
                    self.assertRaises(NoIndex, function, history, thing, "a")
                if not plain_key(thing):
                    self.assertRaises(NoKey, function, history, 0, thing)
            self.assertRaises(NoIndex, function, (), 0, "a")
            self.assertRaises(BadHistory, function, [], 0, "a")


class Orders(unittest.TestCase):

    def test_all_orders_of_small_histories(self):
        kinds = set()
        for seed in range(150):
            draw = random.Random(seed)
            history = drawn_history(draw, draw.randrange(0, 6), draw.choice([1, 2, 3]))
            rows = rows_of(history)
            right = serial_orders(rows)
            for order in itertools.permutations(range(len(history))):
                found = failure(rows, order)
                self.assertEqual(first_failure(history, order), found)
                self.assertIs(is_serial_order(history, order), found is None)
                if found is None:
                    self.assertEqual(worths_behind(history, order), worths_behind(history, right[0]))
                else:
                    self.assertRaises(NotSerial, worths_behind, history, order)
            self.assertEqual(serial_order(history), right[0] if right else None)
            self.assertEqual(many_orders(history), len(right))
            kinds.add(min(len(right), 4))
        self.assertEqual(kinds, {0, 1, 2, 3, 4})

    def test_the_fact_of_orders(self):
        for seed in range(150):
            draw = random.Random(seed)
            history = drawn_history(draw, draw.randrange(2, 6), 2)
            pairs = ties(history)
            self.assertEqual(pairs, sorted((one, other) for one, others in ties_of(rows_of(history)).items()
                                           for other in others))
            for order in itertools.permutations(range(len(history))):
                back = [pair for pair in pairs if order.index(pair[0]) > order.index(pair[1])]
                self.assertIs(is_serial_order(history, order), back == [])

    def test_the_least_key_and_seen_ones_first(self):
        history = (Dealing(0, 1, (), (), (("b", 1), ("c", 1), ("d", 1))),
                   Dealing(0, 2, ("c", "d"), (), (("a", 2), ("b", 2), ("c", 2))),
                   Dealing(2, None, ("a", "b"), (), ()))
        self.assertEqual(first_failure(history, (0, 1, 2)), (1, "c"))
        self.assertEqual(first_failure(history, (2, 0, 1)), (2, "a"))
        self.assertEqual(first_failure(history, (1, 0, 2)), (0, "b"))
        self.assertEqual(first_failure(history, (1, 2, 0)), (0, "b"))
        self.assertEqual((serial_order(history), ring(history)), (None, (0, 1)))

    def test_dropped_keys_are_left_out(self):
        history = (Dealing(0, 1, (), (), (("a", 1), ("b", 1), ("c", None))), Dealing(0, 2, (), (), (("b", None),)),
                   Dealing(2, 3, (), (), (("d", 0),)))
        self.assertEqual(worths_behind(history, (0, 1, 2)), {"a": 1, "d": 0})
        self.assertEqual(worths_behind(history, (2, 0, 1)), {"a": 1, "d": 0})
        self.assertEqual(worths_behind((), ()), {})

    def test_the_fact_of_ends(self):
        for seed in range(60):
            draw = random.Random(seed)
            history = drawn_history(draw, 25, 2, 2)
            order = serial_order(history)
            newest = {}
            for dealing in history:
                newest.update(dict(dealing.writes))
            if order is not None:
                self.assertEqual(worths_behind(history, order),
                                 {key: worth for key, worth in newest.items() if worth is not None})

    def test_things_that_are_no_orders(self):
        history = (Dealing(0, 1, (), (), (("a", 1),)), Dealing(1, None, (), (), ()))
        for thing in [*things(), (0,), (0, 1, 1), (0, 0), (0, 2), (-1, 0), (False, True), (0, True), ("0", 1), [0, 1]]:
            if type(thing) is tuple and thing in ((0, 1), (1, 0)) and bool not in map(type, thing):
                continue
            self.assertIs(is_serial_order(history, thing), False)
            self.assertRaises(NoOrder, first_failure, history, thing)
            self.assertRaises(NoOrder, worths_behind, history, thing)
        self.assertIs(is_serial_order(history, (0, 1)), True)
        self.assertEqual((is_serial_order((), ()), first_failure((), ()), serial_order(()), many_orders(())),
                         (True, None, (), 1))

    def test_many_orders(self):
        looker = Dealing(0, None, (), (), ())
        self.assertEqual(many_orders((looker,) * 14), 87178291200)
        for many in (15, 16, 300):
            with self.assertRaises(TooMany) as caught:
                many_orders((looker,) * many)
            self.assertEqual(caught.exception.most, 14)
        self.assertEqual(many_orders(chain(14)), 1)
        self.assertEqual(many_orders(closed(chain(14))), 0)
        self.assertEqual(many_orders((*chain(7), *(looker,) * 7)), 14 * 13 * 12 * 11 * 10 * 9 * 8)
        with self.assertRaises(BadHistory) as caught:
            many_orders((*(looker,) * 15, None))
        self.assertEqual(caught.exception.index, 15)

    def test_many_dealings(self):
        kinds = set()
        for seed in range(24):
            draw = random.Random(seed)
            history = drawn_history(draw, draw.choice([60, 120]), draw.choice([1, 2]), draw.choice([0, 0, 1, 3]))
            pairs = ties(history)
            order = first_order(len(history), pairs)
            self.assertEqual(serial_order(history), order)
            found = ring_of_all(ties_of(rows_of(history)))
            self.assertEqual(ring(history), found)
            self.assertEqual(order is None, found is not None)
            if order is not None:
                self.assertIs(is_serial_order(history, order), True)
            else:
                self.assertIs(is_ring(history, found), True)
            kinds.add(order is None)
        self.assertEqual(kinds, {False, True})


class Rings(unittest.TestCase):

    def test_all_rings_of_small_histories(self):
        lengths = set()
        for seed in range(200):
            draw = random.Random(seed)
            history = drawn_history(draw, draw.randrange(0, 6), 2)
            rings = all_rings(ties_of(rows_of(history)))
            for many in range(len(history) + 1):
                for thing in itertools.permutations(range(len(history)), many):
                    self.assertIs(is_ring(history, thing), thing in rings)
            first = min(rings, key=lambda found: (len(found), found), default=None)
            self.assertEqual(ring(history), first)
            self.assertEqual(serial_order(history) is None, first is not None)
            lengths.add(len(first or ()))
        self.assertTrue({0, 2, 3} <= lengths)

    def test_what_is_no_ring(self):
        history = closed(chain(4))
        self.assertEqual(ring(history), (0, 3, 2, 1))
        for thing in ((0, 3, 2, 1), (3, 2, 1, 0), (1, 0, 3, 2)):
            self.assertIs(is_ring(history, thing), True)
        for thing in [*things(), (0, 1, 2, 3), (0, 3, 2, 1, 0), (0, 3, 2), [0, 3, 2, 1], (0,), (), (0, 0),
                      (False, 3, 2, 1), (0, 3, 2, True), (0, 3, 2, -3), (0, 3, 2, 5), (0, 3, 2, "1"),
                      (0, 3, 2, 1, 3, 2, 1), (0, 4)]:
            self.assertIs(is_ring(history, thing), False)

    def test_a_dealing_alone_is_no_ring(self):
        history = (Dealing(0, 1, ("a",), (("a", "c", ()),), (("a", 1), ("b", 2))),)
        self.assertEqual((ties(history), ring(history), serial_order(history)), ([], None, (0,)))
        self.assertIs(is_ring(history, (0,)), False)
        self.assertIs(is_ring(history, (0, 0)), False)

    def test_long_chains(self):
        for many in (100, 300):
            history = chain(many)
            self.assertEqual(ties(history), [(at + 1, at) for at in range(many - 1)])
            self.assertEqual((serial_order(history), ring(history)), (tuple(range(many - 1, -1, -1)), None))
            self.assertIsNone(serial_order(closed(history)))
            self.assertEqual(ring(closed(history)), (0, *range(many - 1, 0, -1)))

    def test_the_shortest_comes_first(self):
        history = (*closed(chain(4)), Dealing(4, 5, (), (), (("y", 1), ("x", 1))[::-1]),
                   Dealing(4, 6, ("x",), (), (("y", 2),)))
        self.assertEqual(ring(history), (4, 5))
        self.assertIs(is_ring(history, (5, 4)), True)


class Prefixes(unittest.TestCase):

    def test_all_numbers(self):
        for seed in range(60):
            history = drawn_history(random.Random(seed), 12, 2)
            writers = len([dealing for dealing in history if dealing.number is not None])
            order = serial_order(history)
            for number in range(writers + 2):
                kept = [index for index, dealing in enumerate(history)
                        if (dealing.number is not None and dealing.number <= number)
                        or (dealing.number is None and dealing.snapshot <= number)]
                short = prefix(history, number)
                self.assertIs(type(short), tuple)
                self.assertEqual(list(short), [history[index] for index in kept])
                ties(short)
                if order is not None:
                    others = tuple([kept.index(index) for index in order if index in kept])
                    self.assertIs(is_serial_order(short, others), True)
            self.assertEqual(prefix(history, 10 ** 59), history)

    def test_wrong_numbers(self):
        history = chain(3)
        for thing in things():
            if plain_integer(thing, 0, 10 ** 60):
                self.assertEqual(len(prefix(history, thing)), min(thing, 3))
            else:
                self.assertRaises(NoNumber, prefix, history, thing)
        self.assertRaises(BadHistory, prefix, [], -1)


class LostUpdates(unittest.TestCase):

    def test_by_definition(self):
        some = 0
        for seed in range(100):
            history = drawn_history(random.Random(seed), 9, 3)
            expected = [(one, other) for one, first in enumerate(history) for other, second in enumerate(history)
                        if first.number is not None and second.number is not None
                        and {key for key, _ in first.writes} & {key for key, _ in second.writes}
                        and second.number > first.number and first.number > second.snapshot]
            self.assertEqual(lost_updates(history), expected)
            some += len(expected)
        self.assertGreater(some, 100)

    def test_plain_ones(self):
        one = Dealing(0, 1, (), (), (("a", 1),))
        self.assertEqual(lost_updates((one, Dealing(0, 2, (), (), (("a", 2), ("b", 1))))), [(0, 1)])
        self.assertEqual(lost_updates((one, Dealing(1, 2, (), (), (("a", 2),)))), [])
        self.assertEqual(lost_updates((one, Dealing(0, 2, (), (), (("b", 2),)))), [])
        self.assertEqual(lost_updates((one, Dealing(0, None, ("a",), (), ()))), [])


class Returned(unittest.TestCase):

    def test_it_is_new(self):
        history = drawn_history(random.Random(3), 6, 3)
        for function in (ties, lost_updates):
            kept = list(function(history))
            function(history).clear()
            self.assertEqual(function(history), kept)
        one = (Dealing(0, 1, (), (), (("a", 1),)),)
        worths_behind(one, (0,)).clear()
        self.assertEqual(worths_behind(one, (0,)), {"a": 1})


if __name__ == "__main__":
    unittest.main()
