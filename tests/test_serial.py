import random
import unittest

from wholecommits.errors import BadSeen, BadWrites, NoNumber, NoSnapshot, NotOpen, NotRemembered, Refused, StoreError
from wholecommits.serial import Check
from tests.dealing_rules import (Row, all_rings, drawn_keys, drawn_ranges, drawn_writes, ring_by_distance,
                                 serial_orders, ties_of, tied)
from tests.things import plain_integer, plain_keys, plain_ranges, plain_writes, things


class Account:
    """A check beside the test's own account, in which all that was ever committed stays."""

    def __init__(self, case, last):
        self.case = case
        self.check = Check(last)
        self.last = last
        self.opened = 0
        self.open = {}
        self.rows = {}
        self.ties = {}
        self.known = ()
        self.forgotten = set()
        self.refused = 0

    def opens(self, snapshot):
        self.case.assertEqual(self.check.opens(snapshot), self.opened)
        self.open[self.opened] = snapshot
        self.opened += 1
        return self.opened - 1

    def row(self, entry, keys, ranges, writes):
        return Row(self.open[entry], self.last + 1 if writes else None, keys, ranges, writes)

    def ties_with(self, entry, row):
        """The ties among all that were ever committed and one more."""
        ties = {one: set(others) for one, others in self.ties.items()}
        ties[entry] = {other for other in self.rows if tied(row, self.rows[other])}
        for other in self.rows:
            if tied(self.rows[other], row):
                ties[other].add(entry)
        return ties

    def commits(self, entry, keys, ranges, writes):
        """Whether it was not refused."""
        row = self.row(entry, keys, ranges, writes)
        ties = self.ties_with(entry, row)
        ring = ring_by_distance(entry, ties)
        before = self.told()
        twin = self.check.copy()
        if ring is not None:
            self.refused += 1
            for call in (self.check.would_commit, self.check.commits, twin.would_commit, twin.commits):
                with self.case.assertRaises(Refused) as caught:
                    call(entry, keys, ranges, writes)
                self.case.assertEqual(caught.exception.ring, ring)
                self.case.assertEqual(self.told(), before)
            return False
        self.case.assertEqual(self.check.would_commit(entry, keys, ranges, writes), row.number)
        self.case.assertEqual(self.told(), before)
        self.case.assertEqual(self.check.commits(entry, keys, ranges, writes), row.number)
        self.case.assertEqual(told_by(twin), before)
        self.rows[entry] = row
        self.ties = ties
        self.last += 1 if writes else 0
        del self.open[entry]
        self.forget()
        return True

    def gives_up(self, entry):
        self.case.assertIsNone(self.check.gives_up(entry))
        del self.open[entry]
        self.forget()

    def forget(self):
        """What is remembered by 8.3, word by word, with ties among all that were ever committed."""
        met = set()
        rest = [one for one, row in self.rows.items()
                if row.number is not None and any(row.number > snapshot for snapshot in self.open.values())]
        while rest:
            one = rest.pop()
            if one not in met:
                met.add(one)
                rest += self.ties[one]
        self.case.assertEqual(met & self.forgotten, set())
        self.forgotten = set(self.rows) - met
        self.known = tuple(sorted(met))

    def told(self):
        return told_by(self.check)

    def compare(self):
        self.case.assertEqual(self.told(), (self.last, tuple(sorted(self.open)), self.known))
        if not self.open:
            self.case.assertEqual(self.known, ())

    def rings_could_come(self):
        """Of each remembered entry: what could_ring tells is refused, with a ring through it."""
        for entry in self.known:
            told = self.check.could_ring(entry)
            self.case.assertEqual(told, self.check.could_ring(entry))
            opened, keys, writes = told
            self.case.assertIs(type(told), tuple)
            self.case.assertIn(opened, self.open)
            self.case.assertTrue(plain_keys(keys) and plain_writes(writes))
            self.case.assertEqual({worth for _, worth in writes} - {0}, set())
            ties = self.ties_with(opened, self.row(opened, keys, (), writes))
            self.case.assertTrue(leads(ties, opened, entry) and leads(ties, entry, opened))
            self.case.assertRaises(Refused, self.check.copy().commits, opened, keys, (), writes)
        for entry in range(-1, self.opened + 2):
            if entry not in self.known:
                self.case.assertRaises(NotRemembered, self.check.could_ring, entry)

    def least(self):
        return min(self.open.values(), default=self.last)


def told_by(check):
    return check.last(), check.open_entries(), check.remembered()


def leads(ties, one, other):
    met = set()
    rest = [one]
    while rest:
        at = rest.pop()
        if at not in met:
            met.add(at)
            rest += ties[at]
    return other in met


def one_deed(draw, account, most_open):
    """One drawn call of a check."""
    deed = draw.choice(["open", "open", "open", "commit", "commit", "give"])
    if deed == "open" and len(account.open) < most_open:
        account.opens(draw.randint(account.least(), account.last))
    elif deed == "commit" and account.open:
        most = draw.choice([1, 2, 3])
        account.commits(draw.choice(sorted(account.open)), drawn_keys(draw, most), drawn_ranges(draw, most // 2),
                        drawn_writes(draw, most))
    elif deed == "give" and account.open and draw.random() < 0.4:
        account.gives_up(draw.choice(sorted(account.open)))


class Checks(unittest.TestCase):

    def test_a_new_one(self):
        check = Check(5)
        self.assertEqual(told_by(check), (5, (), ()))
        self.assertEqual((check.opens(5), check.opens(5)), (0, 1))
        self.assertEqual(check.commits(1, (), (), (("a", 1),)), 6)
        self.assertIsNone(check.commits(0, ("b",), (), ()))
        self.assertEqual(told_by(check), (6, (), ()))
        for thing in things():
            if plain_integer(thing, 0, 10 ** 60):
                self.assertEqual(Check(thing).last(), thing)
                self.assertEqual(Check(thing).opens(thing), 0)
            else:
                self.assertRaises(NoNumber, Check, thing)

    def test_drawn_rows(self):
        refused = 0
        for seed in range(700):
            draw = random.Random(seed)
            account = Account(self, draw.choice([0, 3, 10 ** 18]))
            for step in range(40):
                before = len(account.rows)
                one_deed(draw, account, draw.choice([3, 6]))
                account.compare()
                if step % 3 == 0 and len(account.rows) > before:
                    account.rings_could_come()
            account.rings_could_come()
            refused += account.refused
        self.assertGreater(refused, 400)

    def test_an_entry_held_open_for_long(self):
        for seed in range(2):
            draw = random.Random(seed)
            account = Account(self, 0)
            held = account.opens(0)
            while account.last < 110:
                self.one_of_many(draw, account, held)
                account.compare()
            account.rings_could_come()
            self.assertGreater(len(account.known), 60)
            account.commits(held, drawn_keys(draw, 2), (), ())
            if held in account.open:
                account.gives_up(held)
            account.compare()

    def one_of_many(self, draw, account, held):
        others = [entry for entry in account.open if entry != held]
        if len(others) < 3:
            account.opens(draw.randint(max(account.last - 3, 0), account.last))
        else:
            entry = draw.choice(others)
            if not account.commits(entry, drawn_keys(draw, 1), drawn_ranges(draw, 1), drawn_writes(draw, 2)):
                account.gives_up(entry)

    def test_against_all_orders_of_few(self):
        refused = 0
        for seed in range(800):
            draw = random.Random(seed)
            account = Account(self, 0)
            snapshots = []
            while len(account.rows) + len(snapshots) < 5:
                if draw.random() < 0.5:
                    snapshots.append(account.opens(draw.randint(account.least(), account.last)))
                elif snapshots:
                    refused += self.one_of_few(draw, account, snapshots.pop(draw.randrange(len(snapshots))))
            for entry in snapshots:
                refused += self.one_of_few(draw, account, entry)
        self.assertGreater(refused, 400)

    def one_of_few(self, draw, account, entry):
        """Commit an entry if a serial order holds it; returns whether it was refused."""
        parts = (drawn_keys(draw, 2), drawn_ranges(draw, 1), drawn_writes(draw, 3))
        rows = {**account.rows, entry: account.row(entry, *parts)}
        orders = serial_orders(rows)
        rings = [ring for ring in all_rings(ties_of(rows)) if ring[0] == entry]
        self.assertEqual(orders == [], rings != [])
        if rings:
            with self.assertRaises(Refused) as caught:
                account.check.commits(entry, *parts)
            self.assertEqual(caught.exception.ring, min(rings, key=lambda ring: (len(ring), ring)))
        self.assertEqual(account.commits(entry, *parts), orders != [])
        if rings:
            account.gives_up(entry)
        return rings != []

    def test_one_that_was_given_up_is_as_if_never(self):
        for seed in range(200):
            draw = random.Random(seed)
            account = Account(self, 0)
            for _ in range(25):
                one_deed(draw, account, 4)
            before = account.told()
            twin = account.check.copy()
            entry = twin.opens(account.last)
            twin.gives_up(entry)
            self.assertEqual(told_by(twin), before)
            if account.open:
                parts = (drawn_keys(draw, 3), (), drawn_writes(draw, 3))
                opened = min(account.open)
                self.assertEqual(outcome(twin, opened, parts), outcome(account.check.copy(), opened, parts))

    def test_copies_go_on_apart(self):
        for seed in range(200):
            draw = random.Random(seed)
            account = Account(self, 0)
            for _ in range(25):
                one_deed(draw, account, 4)
            twin = account.check.copy()
            self.assertIsInstance(twin, Check)
            self.assertFalse(twin == account.check)
            before = told_by(twin)
            other = Account(self, account.last)
            other.check, other.opened, other.open = twin, account.opened, dict(account.open)
            other.rows, other.ties = dict(account.rows), {one: set(ties) for one, ties in account.ties.items()}
            other.known, other.forgotten = account.known, set(account.forgotten)
            for _ in range(25):
                one_deed(draw, account, 4)
            self.assertEqual(told_by(twin), before)
            for _ in range(25):
                one_deed(draw, other, 4)
                other.compare()
            account.compare()

    def test_opens(self):
        check = Check(5)
        for snapshot in (4, 6, 0):
            self.assertRaises(NoSnapshot, check.opens, snapshot)
        held = check.opens(5)
        for _ in range(3):
            check.commits(check.opens(check.last()), (), (), (("a", 1),))
        self.assertEqual(check.last(), 8)
        later = check.opens(7)
        for snapshot in (4, 9, -1):
            self.assertRaises(NoSnapshot, check.opens, snapshot)
        self.assertEqual([check.opens(snapshot) for snapshot in (5, 6, 8)], [5, 6, 7])
        for entry in (held, 5, 6):
            check.gives_up(entry)
        for snapshot in (5, 6, 9):
            self.assertRaises(NoSnapshot, check.opens, snapshot)
        self.assertEqual(check.opens(7), 8)
        for entry in (later, 7, 8):
            check.gives_up(entry)
        self.assertRaises(NoSnapshot, check.opens, 7)
        self.assertEqual((check.opens(8), check.open_entries()), (9, (9,)))

    def test_a_looker_is_remembered_as_long_as_ties_lead_to_it(self):
        check = Check(0)
        held = check.opens(0)
        check.commits(check.opens(0), (), (), (("a", 1),))
        looker = check.opens(1)
        other = check.opens(1)
        self.assertIsNone(check.commits(looker, (), (("a", "b", ("aa",)),), ()))
        self.assertIsNone(check.commits(other, ("b",), (), ()))
        self.assertEqual(check.remembered(), (1, looker))
        with self.assertRaises(Refused) as caught:
            check.commits(held, ("a",), (), (("aa", 1), ("b", 1)))
        self.assertEqual(caught.exception.ring, (held, 1, looker))
        self.assertIsNone(check.commits(held, (), (("a", "z", ()),), ()))
        self.assertEqual(check.remembered(), ())

    def test_wrong_calls(self):
        check = Check(2)
        held = check.opens(2)
        check.commits(check.opens(2), ("a",), (("a", "b", ("b",)),), (("a", 1),))
        check.gives_up(check.opens(2))
        before = told_by(check)
        wrong = [thing for thing in things() if not plain_integer(thing, 0, 0)] + [2, 3, 4]
        for thing in wrong:
            self.assertRaises(NotOpen, check.commits, thing, None, None, None)
            self.assertRaises(NotOpen, check.would_commit, thing, (), (), ())
            self.assertRaises(NotOpen, check.gives_up, thing)
            if not plain_integer(thing, 1, 1):
                self.assertRaises(NotRemembered, check.could_ring, thing)
            if not plain_integer(thing, 2, 3):
                self.assertRaises(NoSnapshot, check.opens, thing)
        for thing in things():
            for call in (check.commits, check.would_commit):
                if not plain_keys(thing):
                    self.assertRaises(BadSeen, call, held, thing, (), (("a", 1),))
                    self.assertRaises(BadSeen, call, held, thing, None, None)
                if not plain_ranges(thing):
                    self.assertRaises(BadSeen, call, held, ("a",), thing, (("a", 1),))
                    self.assertRaises(BadSeen, call, held, (), thing, None)
                if not plain_writes(thing):
                    self.assertRaises(BadWrites, call, held, ("a",), (), thing)
        self.assertRaises(Refused, check.commits, held, ("a",), (), (("a", None),))
        self.assertEqual(told_by(check), before)

    def test_what_may_be_passed(self):
        for thing in things():
            check = Check(2)
            check.opens(2)
            for parts in ((thing, (), ()), ((), thing, ()), ((), (), thing)):
                if plain_keys(parts[0]) and plain_ranges(parts[1]) and plain_writes(parts[2]):
                    self.assertEqual(check.copy().commits(0, *parts), 3 if parts[2] else None)

    def test_what_is_returned_is_new(self):
        check = Check(0)
        check.opens(0)
        check.commits(check.opens(0), (), (), (("a", 1),))
        self.assertEqual((type(check.open_entries()), type(check.remembered())), (tuple, tuple))


def outcome(check, entry, parts):
    try:
        return check.commits(entry, *parts)
    except StoreError as error:
        return type(error), error.ring


if __name__ == "__main__":
    unittest.main()
