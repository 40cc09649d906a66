import itertools
import random
import unittest

from wholecommits.errors import NoNumber, NoSnapshots, NoVersion, NoVersions, Over
from wholecommits.tree import is_sound
from wholecommits.vacuum import harm, is_kept_right, needed, sweep, takeable
from wholecommits.versions import all_versions, at, dict_at, range_at, write_all
from tests.test_tree import new_batch
from tests.things import plain_integer, plain_lot, plain_mark, things

GREATEST = 10 ** 18
KEYS = ["a", "aa", "b", "c", "m", "z" * 12]


def seen(versions, snapshot):
    """The version that a snapshot sees, None for none."""
    below = [version for version in versions if version[0] <= snapshot]
    return max(below, key=lambda version: version[0], default=None)


def told(versions, snapshot):
    """What a read at a snapshot tells: the version, gone ones and none counting alike."""
    version = seen(versions, snapshot)
    return None if version is None or version[1] is None else version


def asked(open_lot, last):
    """All snapshots that are asked, some beyond the last one standing for those to come."""
    return [*open_lot, last, last + 1, last + 9]


def plain_needed(versions, open_lot, last):
    """By 10.1, asked of each version by itself."""
    def is_needed(version):
        if version not in [seen(versions, snapshot) for snapshot in asked(open_lot, last)]:
            return False
        return version[1] is not None or any(is_needed(elder) for elder in versions if elder[0] < version[0])
    return tuple(sorted(version[0] for version in versions if is_needed(version)))


def plain_kept_right(versions, open_lot, last, lot):
    kept = [version for version in versions if version[0] in lot]
    for snapshot in asked(open_lot, last):
        if seen(kept, snapshot) != seen(versions, snapshot):
            if seen(kept, snapshot) is not None or told(versions, snapshot) is not None:
                return False
    return True


def plain_harm(versions, open_lot, last, commit):
    rest = [version for version in versions if version[0] != commit]
    harmed = [snapshot for snapshot in asked(open_lot, last) if told(versions, snapshot) != told(rest, snapshot)]
    return min(harmed, default=None)


def plain_versions(thing):
    """The index by which a thing is no row of versions, None if it is one."""
    if type(thing) not in (list, tuple):
        return -1
    for index, version in enumerate(thing):
        if not (type(version) is tuple and len(version) == 2 and plain_integer(version[0], 1, GREATEST)
                and plain_mark(version[1])):
            return index
        if index > 0 and version[0] >= thing[index - 1][0]:
            return index
    return None


def drawn_versions(draw, most, kind=list):
    commits = sorted(draw.sample(range(1, 3 * most + 2), draw.randrange(most + 1)), reverse=True)
    return kind((commit, draw.choice([None, None, 0, commit])) for commit in commits)


def drawn_asked(draw, versions):
    """An open lot with snapshots at, ahead of and behind commits, and a last number."""
    newest = versions[0][0] if versions else 0
    last = newest + draw.choice([0, 0, 1, 5])
    near = [commit + shift for commit, _ in versions for shift in (-1, 0, 1)] + [0, last, last // 2]
    within = sorted({snapshot for snapshot in near if snapshot <= last})
    return tuple(sorted(draw.sample(within, draw.randrange(min(4, len(within) + 1))))), last


def all_lots(numbers):
    for many in range(len(numbers) + 1):
        yield from itertools.combinations(sorted(numbers), many)


class OfOneKey(unittest.TestCase):

    def test_against_a_look_at_every_snapshot(self):
        for seed in range(3000):
            draw = random.Random(seed)
            versions = drawn_versions(draw, 6, draw.choice([list, tuple]))
            open_lot, last = drawn_asked(draw, versions)
            lot = needed(versions, open_lot, last)
            self.assertEqual(lot, plain_needed(versions, open_lot, last))
            kept = [version for version in versions if version[0] in lot]
            for snapshot in range(last + 4):
                if snapshot >= last or snapshot in open_lot:
                    self.assertEqual(told(kept, snapshot), told(versions, snapshot))
            for commit, _ in versions:
                self.assertEqual(harm(versions, open_lot, last, commit), plain_harm(versions, open_lot, last, commit))

    def test_all_marks_at_all_places(self):
        for marks in itertools.product([None, 7], repeat=4):
            versions = [(commit, mark) for commit, mark in zip((8, 6, 4, 2), marks)]
            for open_lot in all_lots([1, 2, 3, 5, 8, 9]):
                self.assertEqual(needed(versions, open_lot, 9), plain_needed(versions, open_lot, 9))

    def test_the_fact_of_needs(self):
        for seed in range(500):
            draw = random.Random(seed)
            versions = drawn_versions(draw, 6)
            open_lot, last = drawn_asked(draw, versions)
            least = needed(versions, open_lot, last)
            self.assertIs(is_kept_right(versions, open_lot, last, least), True)
            for lot in all_lots([commit for commit, _ in versions]):
                right = plain_kept_right(versions, open_lot, last, lot)
                self.assertIs(is_kept_right(versions, open_lot, last, lot), right)
                if right:
                    self.assertTrue(set(least) <= set(lot))

    def test_one_more_and_one_less(self):
        versions = [(9, 1), (7, None), (5, 2), (3, None)]
        self.assertEqual(needed(versions, (3, 6), 9), (5, 9))
        for lot, right in (((5, 9), True), ((5, 7, 9), True), ((3, 5, 9), True), ((3, 5, 7, 9), True), ((9,), False),
                           ((5,), False), ((), False), ((3, 9), False), ((5, 7), False)):
            self.assertIs(is_kept_right(versions, (3, 6), 9, lot), right)
        self.assertEqual(needed(versions, (5, 7), 9), (5, 7, 9))
        self.assertIs(is_kept_right(versions, (5, 7), 9, (5, 9)), False)

    def test_a_gone_one_is_needed_if_an_elder_one_is(self):
        self.assertEqual(needed([(9, None), (7, 4), (3, 5)], (4,), 9), (3, 9))
        self.assertEqual(needed([(9, None), (7, 4)], (), 9), ())
        self.assertEqual(needed([(9, None), (7, None), (5, None), (3, 1)], (3, 5, 8), 9), (3, 5, 7, 9))
        self.assertEqual(needed([(9, None), (7, None), (5, None), (3, 1)], (5, 8), 9), ())
        self.assertEqual(needed([], (), 0), ())
        self.assertEqual(needed([(5, 1)], (), 5), (5,))
        self.assertEqual(needed([(5, 1)], (0, 4), 10 ** 18), (5,))

    def test_harm(self):
        versions = [(9, 1), (7, 1), (5, None), (3, None), (2, 1)]
        self.assertEqual([harm(versions, (2, 4, 6, 7, 8), 9, commit) for commit in (9, 7, 5, 3, 2)],
                         [9, 7, None, 4, 2])
        self.assertEqual([harm(versions, (), 12, commit) for commit in (9, 7, 5, 3, 2)], [12, None, None, None, None])
        self.assertEqual([harm([(5, None)], (), 6, 5), harm([(5, 0)], (5,), 6, 5)], [None, 5])

    def test_things_that_are_no_lot(self):
        versions = ((3, None), (1, 5))
        self.assertIs(is_kept_right(versions, (1,), 3, (1, 3)), True)
        self.assertIs(is_kept_right(versions, (), 3, ()), True)
        for thing in [*things(), [1, 3], (3, 1), (1, 1, 3), (1, 1), (True, 3), ("1", 3), (1, "3"), (1, 3, 4), (0, 1, 3),
                      (1, None), {1: True, 3: True}, (1, 2, 3), (-1, 1, 3), (1, 3, 10 ** 18), ((1, 3),)]:
            self.assertIs(is_kept_right(versions, (1,), 3, thing), False)
        for thing in (True, (True,), [1], 1, "1", (1.5.__class__,)):
            self.assertIs(is_kept_right([(1, 5)], (), 1, thing), False)

    def test_no_versions(self):
        rows = [*things(), [(2, 1), (2, 1)], [(2, 1), (3, 1)], [(3, 1), (1, 1), (2, 1)], [(3, 1), (2, 1), None],
                ((GREATEST, 1), (GREATEST, 1)), [(5, 1), (3, 10 ** 18 + 1)], [(5, 1), [3, 1]], [(5, 1), (0, 1)]]
        for thing in rows:
            wrong = plain_versions(thing)
            if wrong is not None:
                for call in (lambda: needed(thing, None, None), lambda: is_kept_right(thing, (), GREATEST, None),
                             lambda: harm(thing, None, -1, None)):
                    with self.assertRaises(NoVersions) as caught:
                        call()
                    self.assertEqual(caught.exception.index, wrong)
            else:
                self.assertEqual(needed(thing, (), GREATEST), plain_needed(thing, (), GREATEST))

    def test_the_errors_in_their_order(self):
        versions = [(7, 1), (3, None)]
        for thing in [*things(), 6, 3, 0]:
            if not plain_integer(thing, 7, GREATEST):
                for call in (lambda: needed(versions, None, thing), lambda: needed(versions, (9,), thing),
                             lambda: is_kept_right(versions, None, thing, None),
                             lambda: harm(versions, None, thing, None)):
                    self.assertRaises(NoNumber, call)
            if not plain_lot(thing, 10):
                for call in (lambda: needed(versions, thing, 9), lambda: is_kept_right(versions, thing, 9, ()),
                             lambda: harm(versions, thing, 9, None)):
                    self.assertRaises(NoSnapshots, call)
            if not plain_integer(thing, 7, 7) and thing != 3:
                self.assertRaises(NoVersion, harm, versions, (3,), 9, thing)
        for open_lot in ((10,), (3, 10), (3, 3), (4, 3), [3], (-1,), (True,)):
            self.assertRaises(NoSnapshots, needed, versions, open_lot, 9)
        self.assertEqual(needed(versions, (0, 3, 9), 9), (7,))
        self.assertRaises(NoVersion, harm, [(1, 5)], (), 1, True)
        self.assertRaises(NoVersion, harm, [], (), 1, 1)

    def test_arguments_stay_as_they_are(self):
        versions = [(7, 1), (3, None)]
        needed(versions, (3,), 9)
        is_kept_right(versions, (3,), 9, (7,))
        harm(versions, (3,), 9, 7)
        self.assertEqual(versions, [(7, 1), (3, None)])


class OfABatch(unittest.TestCase):

    def begin(self, draw, many):
        """A batch with the versions of many keys; returns the plain versions of each key."""
        self.batch = new_batch()
        rows = {}
        for commit in range(1, many + 1):
            changes = {key: draw.choice([None, commit]) for key in draw.sample(KEYS, draw.randrange(4))}
            write_all(self.batch, commit, changes)
            for key, mark in changes.items():
                rows.setdefault(key, []).insert(0, (commit, mark))
        return rows

    def reads(self, snapshots):
        """What all reads at some snapshots tell."""
        return [(dict_at(self.batch, snapshot), [at(self.batch, snapshot, key) for key in KEYS],
                 range_at(self.batch, snapshot, "aa", "m")) for snapshot in snapshots]

    def pairs(self, rows, open_lot, last):
        """What is takeable, by what is needed of each key."""
        return [(key, commit) for key in sorted(rows) for commit, _ in reversed(rows[key])
                if commit not in plain_needed(rows[key], open_lot, last)]

    def test_takeable(self):
        for seed in range(60):
            draw = random.Random(seed)
            rows = self.begin(draw, 25)
            for _ in range(6):
                last = 25 + draw.randrange(3)
                open_lot = tuple(sorted(draw.sample(range(last + 1), draw.randrange(5))))
                self.assertEqual(takeable(self.batch, open_lot, last), self.pairs(rows, open_lot, last))

    def test_sweeps(self):
        for seed in range(60):
            draw = random.Random(seed)
            rows = self.begin(draw, 25)
            last = 25 + draw.randrange(3)
            open_lot = tuple(sorted(draw.sample(range(last + 1), draw.randrange(5))))
            snapshots = [*open_lot, last, last + 1, last + 100]
            before = self.reads(snapshots)
            pairs = self.pairs(rows, open_lot, last)
            while pairs:
                most = draw.choice([1, 1, 3, len(pairs), len(pairs) + 1, 1000])
                versions = all_versions(self.batch)
                self.assertEqual(sweep(self.batch, open_lot, last, most), min(most, len(pairs)))
                self.assertEqual(all_versions(self.batch),
                                 [row for row in versions if (row[0], row[1]) not in pairs[:most]])
                pairs = pairs[most:]
                self.assertEqual(self.reads(snapshots), before)
                self.assertEqual(takeable(self.batch, open_lot, last), pairs)
                self.assertIs(is_sound(self.batch), True)
            self.assertEqual(sweep(self.batch, open_lot, last, 1), 0)
            kept = [(key, commit) for key in sorted(rows)
                    for commit in reversed(plain_needed(rows[key], open_lot, last))]
            self.assertEqual([row[:2] for row in all_versions(self.batch)], kept)

    def test_an_empty_batch(self):
        batch = new_batch()
        self.assertEqual((takeable(batch, (), 0), sweep(batch, (0, 5), 5, 1000)), ([], 0))
        write_all(batch, 1, {"a": None})
        self.assertEqual((takeable(batch, (1,), 1), sweep(batch, (1,), 1, 1), all_versions(batch)), ([("a", 1)], 1, []))

    def test_wrong_things(self):
        self.begin(random.Random(2), 10)
        batch = self.batch
        before = (all_versions(batch), batch.changed())
        self.assertGreater(len(takeable(batch, (), 10)), 3)
        for thing in things():
            if not plain_integer(thing, 0, GREATEST):
                self.assertRaises(NoNumber, takeable, batch, None, thing)
                self.assertRaises(NoNumber, sweep, batch, None, thing, None)
            if not plain_lot(thing, 13):
                self.assertRaises(NoSnapshots, takeable, batch, thing, 12)
                self.assertRaises(NoSnapshots, sweep, batch, thing, 12, None)
            if not plain_integer(thing, 1, 1000):
                self.assertRaises(NoNumber, sweep, batch, (12,), 12, thing)
        for most in (0, 1001, -1, True, None):
            self.assertRaises(NoNumber, sweep, batch, (), 10, most)
        self.assertEqual((all_versions(batch), batch.changed()), before)

    def test_over(self):
        batch = new_batch()
        batch.dropped()
        self.assertRaises(Over, takeable, batch, (), 1)
        self.assertRaises(Over, sweep, batch, (), 1, 1)

    def test_what_is_returned_is_new(self):
        self.begin(random.Random(2), 10)
        kept = takeable(self.batch, (), 10)
        takeable(self.batch, (), 10).clear()
        self.assertEqual(takeable(self.batch, (), 10), kept)


if __name__ == "__main__":
    unittest.main()
