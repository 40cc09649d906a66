import random
import unittest

from wholecommits.errors import BadDisk, NoKey, NoNumber, NoPage, NoRoom, NotOpen, NoWorth, Refused, TooLarge
from wholecommits.log import formatted
from wholecommits.store import Store, new_store
from tests.log_rules import prefix_in, written
from tests.store_rules import KEYS, WORTHS, Beside, one_deed, put_all, whole_deed
from tests.things import plain_integer, plain_key, things

GREATEST = 10 ** 18
MANY_KEYS = [one + other for one in "abcdefgh" for other in "abcdefgh"]


def told(store):
    """All that a store tells of itself without being changed by it."""
    return (store.open_ones(), store.open_snapshots(), store.last(), store.lasting(), store.now(), store.debt(),
            store.versions(), store.dirty(), store.ties_of_now(), written(store.disk()), store.disk().waiting())


class Stores(unittest.TestCase):

    def beside(self, blocks, ring):
        return Beside(self, new_store(blocks, ring), [{}], {})

    def test_a_new_one(self):
        store = new_store(64, 24)
        self.assertEqual(told(store)[:9], ({}, (), 0, 0, {}, 0, [], (), ((), ())))
        self.assertEqual(store.disk().blocks(), 64)
        self.assertEqual(store.disk().lying(0), ("master", 1, 24, 0, 0, 0))
        self.assertEqual((store.begin(), store.begin(), store.begin()), (0, 1, 2))
        self.assertEqual(store.open_ones(), {0: 0, 1: 0, 2: 0})

    def test_drawn_rows(self):
        refused = 0
        commits = 0
        for seed in range(150):
            draw = random.Random(seed)
            beside = self.beside(draw.choice([40, 64, 120]), draw.choice([8, 12, 20]))
            keys = KEYS if seed % 2 else KEYS[:3]
            for _ in range(160):
                one_deed(draw, beside, draw.choice([2, 5]), keys)
                beside.compare()
            refused += beside.refused
            commits += beside.last()
        self.assertGreater(refused, 30)
        self.assertGreater(commits, 1000)

    def test_small_rings_and_small_disks(self):
        large = 0
        full = 0
        for seed in range(60):
            draw = random.Random(seed)
            ring = draw.choice([4, 5, 6])
            beside = self.beside(draw.choice([16, 17, 20, 60]), ring)
            for _ in range(40):
                self.one_of_many_keys(draw, beside)
                beside.compare()
            large += beside.too_large
            full += beside.no_room
        self.assertGreater(large, 50)
        self.assertGreater(full, 50)

    def one_of_many_keys(self, draw, beside):
        """One transaction of many keys that commits if it can, or a call that is of none."""
        if draw.random() < 0.25:
            whole_deed(draw, beside)
            return
        number = beside.begin()
        for key in draw.sample(MANY_KEYS, draw.choice([1, 3, 9, 20, 40])):
            beside.put(number, key, draw.choice(WORTHS))
        came = beside.commit(number, draw.random() < 0.5)
        if came != "done" and draw.random() < 0.6:
            beside.abort(number)

    def test_great_commits(self):
        beside = self.beside(400, 150)
        draw = random.Random(1)
        keys = [a + b + c for a in "abcdefg" for b in "abcdefg" for c in "abcdefg"]
        for many in (300, 200, 343, 10):
            number = beside.begin()
            for key in draw.sample(keys, many):
                beside.put(number, key, draw.choice(WORTHS))
            beside.commit(number, many == 200)
            for open_one in sorted(beside.open):
                beside.abort(open_one)
            beside.compare()
        self.assertGreater(beside.last(), 1)
        beside.vacuum()
        beside.compare()

    def test_wrong_disks(self):
        for thing in things():
            if not plain_integer(thing, 16, 600):
                self.assertRaises(BadDisk, new_store, thing, 8)
            if not plain_integer(thing, 4, 56):
                self.assertRaises(BadDisk, new_store, 64, thing)
            if not isinstance(thing, type(formatted(24, 8))):
                self.assertRaises(BadDisk, Store, thing)
        disk = formatted(24, 8)
        disk.write(9, (-1, "meta", -1, 0, 0, 0))
        self.assertRaises(BadDisk, Store, disk)

    def test_numbers_of_no_open_one(self):
        store = new_store(64, 24)
        for _ in range(5):
            store.begin()
        store.put(1, "a", 1)
        store.abort(0)
        store.commit(1)
        store.commit_soon(2)
        before = told(store)
        for thing in [*things(), 0, 1, 2, 5, -1]:
            if type(thing) is int and thing in (3, 4):
                continue
            for call in (store.stands_at, store.abort, store.commit, store.commit_soon):
                self.assertRaises(NotOpen, call, thing)
            for other in ("a", "A", None, thing):
                self.assertRaises(NotOpen, store.get, thing, other)
                self.assertRaises(NotOpen, store.between, thing, other, other)
                self.assertRaises(NotOpen, store.put, thing, other, other)
                self.assertRaises(NotOpen, store.drop, thing, other)
        self.assertEqual(told(store), before)

    def test_flags_are_no_numbers(self):
        store = new_store(64, 24)
        store.begin()
        store.begin()
        for flag in (False, True):
            for call in (store.stands_at, store.abort, store.commit, store.commit_soon):
                self.assertRaises(NotOpen, call, flag)
            self.assertRaises(NotOpen, store.get, flag, "a")
        self.assertEqual(store.open_ones(), {0: 0, 1: 0})

    def test_wrong_keys_and_worths(self):
        store = new_store(64, 24)
        put_all(store, {"a": 1})
        number = store.begin()
        before = told(store)
        for thing in things():
            if not plain_key(thing):
                self.assertRaises(NoKey, store.get, number, thing)
                self.assertRaises(NoKey, store.between, number, thing, "a")
                self.assertRaises(NoKey, store.between, number, "a", thing)
                self.assertRaises(NoKey, store.put, number, thing, None)
                self.assertRaises(NoKey, store.drop, number, thing)
            if not plain_integer(thing, -GREATEST, GREATEST):
                self.assertRaises(NoWorth, store.put, number, "a", thing)
        self.assertEqual(told(store), before)
        self.assertIsNone(store.commit(number))

    def test_wrong_numbers_of_sweeps(self):
        store = new_store(64, 24)
        put_all(store, {"a": 1})
        put_all(store, {"a": 2})
        before = told(store)
        for thing in things():
            if not plain_integer(thing, 1, 1000):
                self.assertRaises(NoNumber, store.sweep, thing)
        for number in (0, -1, 1001, GREATEST, True):
            self.assertRaises(NoNumber, store.sweep, number)
        self.assertEqual(told(store), before)
        self.assertEqual((store.sweep(1000), store.sweep(1)), (1, 0))

    def test_wrong_pages(self):
        store = new_store(64, 24)
        put_all(store, {"a": 1})
        self.assertEqual(store.dirty(), (0, 1))
        for thing in things():
            if not plain_integer(thing, 0, 1):
                self.assertRaises(NoPage, store.write_out, thing)
        self.assertEqual(store.dirty(), (0, 1))

    def test_refused_ones_stay_open(self):
        store = new_store(64, 24)
        one, other, third = store.begin(), store.begin(), store.begin()
        for number, seen, put in ((one, "a", "b"), (other, "b", "a")):
            self.assertIsNone(store.get(number, seen))
            store.put(number, put, 7)
        self.assertEqual(store.commit_soon(one), 1)
        before = told(store)
        for call in (store.commit, store.commit_soon, store.commit):
            with self.assertRaises(Refused) as caught:
                call(other)
            self.assertEqual(caught.exception.ring, (1, 0))
            self.assertEqual(told(store), before)
        self.assertEqual((store.get(other, "b"), store.get(other, "a")), (None, 7))
        store.drop(other, "c")
        self.assertEqual(store.open_ones(), {1: 0, 2: 0})
        self.assertEqual(store.ties_of_now(), ((0,), (1, 2)))
        store.abort(other)
        store.abort(third)
        self.assertEqual((store.ties_of_now(), store.now()), (((), ()), {"b": 7}))
        self.assertEqual(store.begin(), 3)

    def test_an_aborted_one_was_never(self):
        store = new_store(64, 24)
        put_all(store, {"a": 1, "b": 2})
        before = told(store)
        number = store.begin()
        store.get(number, "a")
        store.between(number, "a", "z")
        store.put(number, "a", 5)
        store.drop(number, "b")
        self.assertIsNone(store.abort(number))
        self.assertEqual(told(store), before)
        self.assertRaises(NotOpen, store.abort, number)

    def test_a_snapshot_sees_commits_that_were_not_forced(self):
        store = new_store(64, 24)
        self.assertEqual(put_all(store, {"a": 1}, soon=True), 1)
        number = store.begin()
        self.assertEqual((store.stands_at(number), store.get(number, "a"), store.lasting()), (1, 1, 0))
        self.assertEqual(put_all(store, {"a": 2}, soon=True), 2)
        self.assertEqual((store.get(number, "a"), store.between(number, "a", "z")), (1, [("a", 1)]))
        self.assertEqual((store.last(), store.lasting(), store.now()), (2, 0, {"a": 2}))

    def test_what_lasts(self):
        store = new_store(64, 24)
        put_all(store, {"a": 1}, soon=True)
        looker = store.begin()
        blind = store.begin()
        put_all(store, {"a": 2}, soon=True)
        self.assertEqual((store.lasting(), len(store.disk().waiting())), (0, 2))
        self.assertIsNone(store.commit_soon(blind))
        self.assertEqual((store.lasting(), len(store.disk().waiting())), (0, 2))
        self.assertIsNone(store.commit(looker))
        self.assertEqual((store.lasting(), len(store.disk().waiting())), (1, 1))
        self.assertIsNone(store.force())
        self.assertEqual((store.lasting(), store.disk().waiting()), (2, {}))
        put_all(store, {"a": 3}, soon=True)
        put_all(store, {"b": 3}, soon=True)
        self.assertEqual((store.lasting(), put_all(store, {"c": 1}), store.lasting()), (2, 5, 5))
        put_all(store, {"a": 4}, soon=True)
        self.assertEqual(store.lasting(), 5)
        store.write_out(0)
        self.assertEqual(store.lasting(), 6)
        put_all(store, {"a": 5}, soon=True)
        store.checkpoint()
        self.assertEqual((store.lasting(), store.dirty(), store.disk().waiting()), (7, (), {}))
        put_all(store, {"a": 6}, soon=True)
        store.disk().calm()
        self.assertEqual((store.lasting(), store.last()), (7, 8))
        other = Store(store.disk())
        self.assertEqual((other.lasting(), other.last(), other.now()), (8, 8, {"a": 6, "b": 3, "c": 1}))

    def test_a_looker_forces_no_further_than_its_snapshot(self):
        store = new_store(64, 24)
        looker = store.begin()
        put_all(store, {"a": 1}, soon=True)
        store.get(looker, "b")
        self.assertIsNone(store.commit(looker))
        self.assertEqual((store.lasting(), store.disk().waiting()), (0, {1: 1}))
        looker = store.begin()
        store.checkpoint()
        put_all(store, {"a": 2}, soon=True)
        waiting = store.disk().waiting()
        self.assertIsNone(store.commit(looker))
        self.assertEqual((store.lasting(), store.disk().waiting()), (1, waiting))

    def test_notes_and_records(self):
        store = new_store(64, 24)
        put_all(store, {"a": 1, "b": 2})
        number = store.begin()
        store.drop(number, "a")
        store.commit(number)
        store.vacuum()
        store.vacuum()
        rows = prefix_in(written(store.disk()))[0]
        self.assertEqual([record[:1 + record[0]] for _, record in rows],
                         [(2, "commit", 1), (2, "commit", 2), (1, "sweep")])
        self.assertEqual(rows[0][1], (2, "commit", 1, 0, 5, "meta", -1, 2, 1, 1,
                                      1, 9, "leaf", "a", -1, 1, 1, "b", -1, 1, 2))

    def test_a_key_that_is_dropped_though_it_has_no_worth(self):
        store = new_store(64, 24)
        number = store.begin()
        store.drop(number, "q")
        self.assertEqual(store.commit(number), 1)
        self.assertEqual((store.versions(), store.now(), store.debt()), ([("q", 1, None)], {}, 1))
        self.assertEqual((store.vacuum(), store.versions(), store.last()), (1, [], 1))

    def test_vacuum_with_old_snapshots(self):
        for seed in range(30):
            draw = random.Random(seed)
            beside = self.beside(120, 40)
            held = []
            for _ in range(25):
                number = beside.begin()
                for key in draw.sample(KEYS, draw.randrange(1, 4)):
                    if draw.random() < 0.3:
                        beside.drop(number, key)
                    else:
                        beside.put(number, key, draw.choice(WORTHS))
                beside.commit(number, True)
                if draw.random() < 0.2:
                    held.append(beside.begin())
            needed = {(key, commit) for key in beside.versions for commit in beside.needed(key)}
            debt = beside.store.debt()
            some = beside.sweep(draw.choice([1, 3]))
            self.check_held(beside, held)
            self.assertEqual(beside.vacuum() + some, debt)
            beside.compare()
            self.check_held(beside, held)
            self.assertEqual({(key, commit) for key, commit, _ in beside.store.versions()}, needed)
            self.assertEqual((beside.store.debt(), beside.store.vacuum()), (0, 0))
            for number in held:
                beside.abort(number)
            beside.vacuum()
            beside.compare()
            self.assertEqual([key for key, _, _ in beside.store.versions()], sorted(beside.dicts[-1]))

    def check_held(self, beside, held):
        for number in held:
            beside.between(number, "a", "z" * 12)
            for key in KEYS:
                beside.get(number, key)

    def test_sweeps_of_some_and_of_more_than_there_are(self):
        store = new_store(120, 40)
        for worth in range(30):
            put_all(store, {"a": worth, "b": -worth})
        self.assertEqual(store.debt(), 58)
        self.assertEqual((store.sweep(1), store.debt()), (1, 57))
        self.assertEqual(store.versions()[-1], ("b", 1, 0))
        self.assertEqual([row[1] for row in store.versions() if row[0] == "a"], list(range(30, 1, -1)))
        self.assertEqual((store.sweep(7), store.debt()), (7, 50))
        self.assertEqual((store.sweep(1000), store.sweep(1000), store.debt()), (50, 0, 0))
        self.assertEqual(store.versions(), [("a", 30, 29), ("b", 30, -29)])

    def test_commits_that_can_not_be(self):
        store = new_store(20, 4)
        put_all(store, {"a": 1, "b": 2})
        number = store.begin()
        store.get(number, "a")
        for key in MANY_KEYS[:20]:
            store.put(number, key, 5)
        for key in MANY_KEYS[20:]:
            store.drop(number, key)
        before = told(store)
        for call in (store.commit, store.commit_soon):
            self.assertRaises((TooLarge, NoRoom), call, number)
            self.assertEqual(told(store), before)
        self.assertEqual((store.get(number, "ab"), store.get(number, "b")), (5, 2))
        self.assertEqual(put_all(store, {"c": 1}), 2)
        store.abort(number)
        self.assertEqual((store.now(), store.ties_of_now()), ({"a": 1, "b": 2, "c": 1}, ((), ())))

    def test_too_large_and_no_room_by_themselves(self):
        store = new_store(100, 4)
        number = store.begin()
        for key in MANY_KEYS[:30]:
            store.put(number, key, 5)
        before = told(store)
        self.assertRaises(TooLarge, store.commit, number)
        self.assertEqual(told(store), before)
        store = new_store(70, 60)
        number = store.begin()
        for key in MANY_KEYS:
            store.put(number, key, 5)
        before = told(store)
        self.assertRaises(NoRoom, store.commit, number)
        self.assertRaises(NoRoom, store.commit_soon, number)
        self.assertEqual(told(store), before)

    def test_records_of_6000_and_more(self):
        letters = "abcdefghijkl"
        keys = [a + b + c for a in letters for b in letters for c in letters]
        for many, error in ((1000, None), (1100, TooLarge)):
            store = new_store(600, 198)
            number = store.begin()
            for key in keys[:many]:
                store.put(number, key, 1)
            if error is None:
                self.assertEqual(store.commit(number), 1)
                self.assertGreater(len(prefix_in(written(store.disk()))[0][-1][1]), 5700)
                self.assertEqual(len(store.now()), many)
            else:
                before = told(store)
                self.assertRaises(error, store.commit, number)
                self.assertEqual(told(store), before)

    def test_a_vacuum_whose_record_is_too_large(self):
        store = new_store(300, 4)
        keys = [a + b for a in "abcdefghijklmno" for b in "abcdef"]
        for at in range(0, len(keys), 3):
            put_all(store, {key: 1 for key in keys[at:at + 3]})
        for at in range(8):
            put_all(store, {keys[at * 11]: 2})
        before = told(store)
        self.assertEqual(store.debt(), 8)
        self.assertRaises(TooLarge, store.vacuum)
        self.assertEqual(told(store), before)
        self.assertRaises(TooLarge, store.sweep, 8)
        self.assertEqual(told(store), before)
        self.assertEqual((store.sweep(3), store.debt()), (3, 5))
        self.assertEqual((store.sweep(2), store.vacuum(), store.debt()), (2, 3, 0))
        for at in range(16):
            put_all(store, {"aa": at})
        for at in range(1, 9):
            put_all(store, {keys[at * 11]: 3})
        self.assertEqual(store.debt(), 24)
        self.assertRaises(TooLarge, store.vacuum)
        self.assertEqual(store.debt(), 8)
        self.assertEqual(store.versions()[:2], [("aa", store.last() - 8, 15), ("ab", 1, 1)])

    def test_what_was_returned_may_be_changed(self):
        store = new_store(64, 24)
        put_all(store, {"a": 1, "b": 2})
        number = store.begin()
        before = told(store)
        store.open_ones().clear()
        store.now()["a"] = 9
        store.versions().clear()
        store.between(number, "a", "z").clear()
        self.assertEqual(told(store), before)
        self.assertEqual((store.get(number, "a"), store.between(number, "a", "b")), (1, [("a", 1), ("b", 2)]))

    def test_opened_again(self):
        for seed in range(40):
            draw = random.Random(seed)
            beside = self.beside(64, 12)
            for _ in range(4):
                for _ in range(40):
                    one_deed(draw, beside)
                disk = beside.disk
                beside = Beside(self, Store(disk), beside.dicts, beside.versions)
                self.assertEqual((disk.waiting(), beside.store.open_ones()), ({}, {}))
                self.assertEqual(beside.store.lasting(), beside.last())
                beside.compare()
                again = Store(disk)
                self.assertEqual(told(again)[2:8], told(beside.store)[2:8])
                beside = Beside(self, again, beside.dicts, beside.versions)
                beside.compare()


if __name__ == "__main__":
    unittest.main()
