import random
import unittest

from wholecommits.errors import NoChanges, NoCommit, NoKey, NoRoom, NoSnapshot, NotThere, Over
from wholecommits.log import formatted
from wholecommits.pages import Pages
from wholecommits.tree import all_spots, is_sound
from wholecommits.versions import all_versions, at, dict_at, range_at, take_version, versions_of, write_all
from tests.test_tree import new_batch
from tests.things import plain_integer, plain_key, plain_mark, things

KEYS = ["a", "aa", "aaa", "ab", "abc", "b", "ba", "m", "z", "z" * 12]
LATEST = 10 ** 18


def plain_changes(thing):
    return type(thing) is dict and all(plain_key(key) and plain_mark(mark) for key, mark in thing.items())


class Written(unittest.TestCase):
    """Versions beside plain dicts, one for each snapshot, and a plain dict of the versions that are there."""

    def begin(self, draw, many):
        self.batch = new_batch()
        self.states = [{}]
        self.there = {}
        for commit in range(1, many + 1):
            changes = {key: draw.choice([None, commit, -commit, 0, LATEST])
                       for key in draw.sample(KEYS, draw.randrange(5))}
            passed = dict(changes)
            self.assertIsNone(write_all(self.batch, commit, passed))
            self.assertEqual(passed, changes)
            state = {**self.states[-1], **changes}
            self.states.append({key: mark for key, mark in state.items() if mark is not None})
            for key, mark in changes.items():
                self.there[key, commit] = mark
        self.check_versions()

    def check_versions(self):
        expected = [(key, commit, self.there[key, commit])
                    for key, commit in sorted(self.there, key=lambda place: (place[0], -place[1]))]
        self.assertEqual(all_versions(self.batch), expected)
        self.assertEqual(all_spots(self.batch), [(key, -commit, mark) for key, commit, mark in expected])
        for key in [*KEYS, "c", "zz"]:
            self.assertEqual(versions_of(self.batch, key), [row[1:] for row in expected if row[0] == key])
        self.assertIs(is_sound(self.batch), True)

    def seen(self, snapshot):
        """The dict that a snapshot sees of the versions that are there."""
        newest = {}
        for key, commit in sorted(self.there, key=lambda place: place[1]):
            if commit <= snapshot:
                newest[key] = self.there[key, commit]
        return {key: mark for key, mark in newest.items() if mark is not None}

    def check_snapshot(self, snapshot, state):
        self.assertEqual(dict_at(self.batch, snapshot), state)
        for key in [*KEYS, "c", "zz"]:
            self.assertEqual(at(self.batch, snapshot, key), state.get(key))
        for low in ["a", "ab", "ac", "m", "z", "zz"]:
            for high in ["a", "aa", "b", "ma", "z" * 12]:
                expected = [(key, state[key]) for key in sorted(state) if low <= key <= high]
                self.assertEqual(range_at(self.batch, snapshot, low, high), expected)

    def test_all_snapshots(self):
        for seed in range(6):
            self.begin(random.Random(seed), 40)
            for snapshot, state in enumerate(self.states):
                self.assertEqual(self.seen(snapshot), state)
                self.check_snapshot(snapshot, state)
            for snapshot in (41, 1000, LATEST):
                self.check_snapshot(snapshot, self.states[-1])

    def test_versions_taken(self):
        for seed in range(4):
            draw = random.Random(seed)
            self.begin(draw, 30)
            while self.there:
                for _ in range(min(8, len(self.there))):
                    key, commit = draw.choice(sorted(self.there))
                    self.assertIsNone(take_version(self.batch, key, commit))
                    del self.there[key, commit]
                    self.assertRaises(NotThere, take_version, self.batch, key, commit)
                self.check_versions()
                for snapshot in draw.sample(range(31), 5):
                    self.check_snapshot(snapshot, self.seen(snapshot))
            self.assertEqual((self.batch.root(), all_versions(self.batch), dict_at(self.batch, 30)), (0, [], {}))

    def test_nothing_written(self):
        batch = new_batch()
        self.assertEqual((at(batch, 5, "a"), range_at(batch, 5, "a", "z"), versions_of(batch, "a"), all_versions(batch),
                          dict_at(batch, 5)), (None, [], [], [], {}))
        self.assertIsNone(write_all(batch, 1, {}))
        self.assertEqual((batch.root(), batch.changed()), (0, ()))

    def test_gone_keys(self):
        batch = new_batch()
        write_all(batch, 1, {"a": 5})
        write_all(batch, 2, {"a": None})
        write_all(batch, 4, {"a": 0})
        self.assertEqual([at(batch, snapshot, "a") for snapshot in range(6)], [None, 5, None, None, 0, 0])
        self.assertEqual([dict_at(batch, snapshot) for snapshot in range(5)], [{}, {"a": 5}, {}, {}, {"a": 0}])
        self.assertEqual(range_at(batch, 2, "a", "a"), [])
        self.assertEqual(range_at(batch, 4, "a", "a"), [("a", 0)])
        self.assertEqual(versions_of(batch, "a"), [(4, 0), (2, None), (1, 5)])
        self.assertEqual(all_spots(batch), [("a", -4, 0), ("a", -2, None), ("a", -1, 5)])

    def test_the_greatest_commits(self):
        batch = new_batch()
        for commit in (1, LATEST - 1, LATEST):
            write_all(batch, commit, {"a": commit, "z" * 12: None, "b": -LATEST})
        self.assertEqual((at(batch, LATEST, "a"), at(batch, LATEST - 1, "a"), at(batch, LATEST - 2, "a")),
                         (LATEST, LATEST - 1, 1))
        self.assertEqual(range_at(batch, LATEST, "a", "z" * 12), [("a", LATEST), ("b", -LATEST)])
        self.assertEqual([commit for commit, _ in versions_of(batch, "z" * 12)], [LATEST, LATEST - 1, 1])
        take_version(batch, "a", LATEST)
        self.assertEqual(at(batch, LATEST, "a"), LATEST - 1)

    def test_a_commit_written_twice_has_the_newest_marks(self):
        batch = new_batch()
        write_all(batch, 3, {"a": 1, "b": 1})
        write_all(batch, 3, {"a": None, "c": 2})
        self.assertEqual(all_versions(batch), [("a", 3, None), ("b", 3, 1), ("c", 3, 2)])

    def test_it_lasts(self):
        disk = formatted(100, 20)
        pages = Pages(disk)
        for commit in range(1, 9):
            batch = pages.batch()
            write_all(batch, commit, {key: commit for key in KEYS[commit % 3:commit % 3 + 4]})
            batch.done(("commit", commit))
        pages.force(pages.record())
        before = all_versions(pages.batch())
        disk.cut()
        self.assertEqual(all_versions(Pages(disk).batch()), before)

    def test_what_is_returned_is_new(self):
        batch = new_batch()
        write_all(batch, 1, {"a": 1})
        for call in (lambda: dict_at(batch, 1), lambda: all_versions(batch), lambda: versions_of(batch, "a"),
                     lambda: range_at(batch, 1, "a", "a")):
            kept = call()
            call().clear()
            self.assertEqual(call(), kept)


class Wrong(unittest.TestCase):

    def begin(self):
        self.batch = new_batch()
        write_all(self.batch, 1, {"a": 1, "b": None})
        write_all(self.batch, 7, {"a": 2})

    def test_each_argument(self):
        self.begin()
        batch = self.batch
        before = (all_versions(batch), batch.changed())
        for thing in things():
            if not plain_integer(thing, 1, LATEST):
                self.assertRaises(NoCommit, write_all, batch, thing, {"a": 1})
                self.assertRaises(NoCommit, write_all, batch, thing, thing)
                self.assertRaises(NoCommit, take_version, batch, "a", thing)
            if not plain_changes(thing):
                self.assertRaises(NoChanges, write_all, batch, 9, thing)
                self.assertRaises(NoCommit, write_all, batch, 0, thing)
            if not plain_integer(thing, 0, LATEST):
                self.assertRaises(NoSnapshot, at, batch, thing, "a")
                self.assertRaises(NoSnapshot, at, batch, thing, thing)
                self.assertRaises(NoSnapshot, range_at, batch, thing, "a", "b")
                self.assertRaises(NoSnapshot, range_at, batch, thing, None, None)
                self.assertRaises(NoSnapshot, dict_at, batch, thing)
            if not plain_key(thing):
                self.assertRaises(NoKey, at, batch, 7, thing)
                self.assertRaises(NoKey, range_at, batch, 7, thing, "b")
                self.assertRaises(NoKey, range_at, batch, 7, "b", thing)
                self.assertRaises(NoKey, versions_of, batch, thing)
                self.assertRaises(NoKey, take_version, batch, thing, 1)
                self.assertRaises(NoKey, take_version, batch, thing, None)
        self.assertEqual((all_versions(batch), batch.changed()), before)

    def test_changes_with_one_that_is_wrong_change_nothing(self):
        self.begin()
        before = all_versions(self.batch)
        for changes in ({"c": 1, "d": True}, {"c": 1, "D": 1}, {"c": 1, "d": 10 ** 18 + 1}, {"c": 1, 5: 1}, [("c", 1)],
                        {"c": 1, ("d",): 1}, {"c": 1, "d" * 13: 1}, {"c": 1, "": 1}, {"c": 1, "d": "e"}):
            self.assertRaises(NoChanges, write_all, self.batch, 9, changes)
        self.assertEqual(all_versions(self.batch), before)

    def test_what_may_be_passed(self):
        for thing in things():
            self.begin()
            if plain_changes(thing):
                self.assertIsNone(write_all(self.batch, 9, thing))
                self.assertEqual([row for row in all_versions(self.batch) if row[1] == 9],
                                 [(key, 9, thing[key]) for key in sorted(thing)])
            if plain_integer(thing, 0, LATEST):
                self.assertEqual(at(self.batch, thing, "a"), 2 if thing >= 7 else 1 if thing else None)
            if plain_key(thing):
                self.assertEqual(at(self.batch, 7, thing), 2 if thing == "a" else None)

    def test_not_there(self):
        self.begin()
        for key, commit in (("a", 2), ("a", LATEST), ("aa", 1), ("b", 7), ("c", 1)):
            self.assertRaises(NotThere, take_version, self.batch, key, commit)
        self.assertRaises(NotThere, take_version, new_batch(), "a", 1)
        self.assertEqual(len(all_versions(self.batch)), 3)

    def test_the_wrong_way_round(self):
        self.begin()
        self.assertEqual(range_at(self.batch, 7, "b", "a"), [])
        self.assertEqual(range_at(self.batch, 7, "z", "a"), [])
        self.assertEqual(range_at(self.batch, 7, "aa", "az"), [])

    def test_over(self):
        for end in (lambda batch: batch.done(()), lambda batch: batch.dropped()):
            self.begin()
            batch = self.batch
            end(batch)
            for call in (lambda: write_all(batch, 9, {"a": 1}), lambda: at(batch, 1, "a"),
                         lambda: versions_of(batch, "a"), lambda: range_at(batch, 1, "a", "b"),
                         lambda: take_version(batch, "a", 1), lambda: all_versions(batch), lambda: dict_at(batch, 1)):
                self.assertRaises(Over, call)
            self.assertRaises(NoCommit, write_all, batch, 0, {})
            self.assertRaises(NoChanges, write_all, batch, 1, [])
            self.assertRaises(NoSnapshot, dict_at, batch, -1)
            self.assertRaises(NoKey, versions_of, batch, "")

    def test_no_room(self):
        pages = Pages(formatted(16, 4))
        batch = pages.batch()
        commit = 0
        with self.assertRaises(NoRoom):
            while commit < 200:
                commit += 1
                write_all(batch, commit, {"a": commit})
        self.assertEqual(len(all_versions(batch)), commit - 1)
        batch.dropped()
        self.assertEqual(all_versions(pages.batch()), [])


if __name__ == "__main__":
    unittest.main()
