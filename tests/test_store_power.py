import random
import unittest

from wholecommits.errors import NoRoom, Refused, Stopped, TooLarge
from wholecommits.log import formatted
from wholecommits.recovery import commits_of, meaning, pages_of, prefix_of
from wholecommits.store import Store
from tests.lying_rules import dict_lying, last_lying, notes_lying, pages_lying

KEYS = ["a", "b", "c", "d", "e", "f", "g", "h", "i", "j", "k", "l"]


MANY_KEYS = [one + other for one in KEYS for other in "abcd"]


class Life:
    """A drawn row of calls of stores on one disk, the same for the same seed, beside the dict behind each commit."""

    def __init__(self, case, seed, blocks, ring, keys=KEYS):
        self.case = case
        self.keys = keys
        self.draw = random.Random(seed)
        self.disk = formatted(blocks, ring)
        self.dicts = [{}]
        self.sure = 0
        self.refused = 0
        self.failed = 0
        self.begun = []
        self.store = Store(self.disk)

    def calls(self, many):
        """So many drawn calls, or as many as there is power for; whether there was power for all."""
        try:
            for _ in range(many):
                self.one_call()
                self.sure = self.store.lasting()
                self.case.assertLessEqual(self.sure, len(self.dicts) - 1)
        except Stopped:
            return False
        return True

    def one_call(self):
        word = self.draw.choice("""begin begin commit commit soon soon soon write write write force out out out reach
                                   reach reach sweep vacuum check abort""".split())
        if word == "begin":
            self.begin()
        elif word == "write":
            self.begin()
            self.commit(len(self.begun) - 1, self.draw.random() < 0.3)
        elif word in ("commit", "soon"):
            if self.begun:
                self.commit(self.draw.randrange(len(self.begun)), word == "commit")
        elif word == "abort" and self.begun:
            self.store.abort(self.begun.pop(0)[0])
        elif word == "out" and self.store.dirty():
            self.store.write_out(self.draw.choice(self.store.dirty()))
        elif word == "reach" and self.disk.waiting():
            self.disk.reach(self.draw.choice(sorted(self.disk.waiting())))
        elif word == "force":
            self.store.force()
        elif word == "check" and self.draw.random() < 0.5:
            self.store.checkpoint()
        elif word in ("sweep", "vacuum"):
            self.clean(word)

    def begin(self):
        number = self.store.begin()
        changes = {}
        for key in self.draw.sample(self.keys, self.draw.randrange(4)):
            self.case.assertEqual(self.store.get(number, key), self.dicts[-1].get(key))
        for key in self.draw.sample(self.keys, self.draw.choice([0, 1, 1, 2, 3, 7, len(self.keys) // 3])):
            if self.draw.random() < 0.3:
                changes[key] = None
                self.store.drop(number, key)
            else:
                changes[key] = self.draw.randrange(1000)
                self.store.put(number, key, changes[key])
        self.begun.append((number, changes))

    def commit(self, at, forced):
        number, changes = self.begun.pop(at)
        try:
            done = self.store.commit(number) if forced else self.store.commit_soon(number)
        except (Refused, TooLarge, NoRoom) as error:
            self.refused += isinstance(error, Refused)
            self.failed += not isinstance(error, Refused)
            self.store.abort(number)
            return
        if changes:
            self.dicts.append({key: worth for key, worth in {**self.dicts[-1], **changes}.items() if worth is not None})
            self.case.assertEqual(done, len(self.dicts) - 1)
        else:
            self.case.assertIsNone(done)
        if forced and changes:
            self.case.assertEqual(self.store.lasting(), done)

    def clean(self, word):
        try:
            self.store.vacuum() if word == "vacuum" else self.store.sweep(self.draw.choice([1, 5, 1000]))
        except TooLarge:
            self.failed += 1

    def check_lying(self):
        """What lies there is a prefix of the commits with all that is to last; returns the number of its last one."""
        told = meaning(self.disk)
        last = commits_of(self.disk)
        self.case.assertTrue(self.sure <= last < len(self.dicts), (self.sure, last, len(self.dicts)))
        self.case.assertEqual(told, self.dicts[last])
        self.case.assertEqual((dict_lying(self.disk), last_lying(self.disk)), (told, last))
        self.case.assertEqual((pages_of(self.disk), prefix_of(self.disk)),
                              (pages_lying(self.disk), notes_lying(self.disk)))
        return last

    def opened(self):
        """Open a new store on the disk that was cut, which is to be as the commits up to what lies there."""
        last = self.check_lying()
        self.store = Store(self.disk)
        self.case.assertEqual((self.store.last(), self.store.lasting(), self.store.now()),
                              (last, last, self.dicts[last]))
        self.case.assertEqual((self.store.open_ones(), self.store.ties_of_now()), ({}, ((), ())))
        self.dicts = self.dicts[:last + 1]
        self.sure = last
        self.begun = []
        self.case.assertEqual(self.check_lying(), last)

    def opened_amid(self):
        """Open stores for which there is power for a few writes alone, and cut; none of them changes the meaning."""
        last = commits_of(self.disk)
        power = 0
        while True:
            self.disk.power(power)
            try:
                Store(self.disk)
            except Stopped:
                self.disk.cut()
                self.case.assertEqual(self.check_lying(), last)
                power += 1
            else:
                break
        self.disk.power(None)
        first = state_of(Store(self.disk))
        self.case.assertEqual(state_of(Store(self.disk)), first)
        self.disk.cut()
        self.case.assertEqual(state_of(Store(self.disk)), first)


def state_of(store):
    return store.now(), store.last(), store.lasting(), store.versions(), store.dirty(), store.debt()


class Power(unittest.TestCase):

    def all_powers(self, seed, blocks, ring, many, keys=KEYS):
        """Let the power go behind each number of writes; returns how many there are."""
        whole = Life(self, seed, blocks, ring, keys)
        start = whole.disk.reached()
        whole.calls(many)
        self.failed += whole.failed
        self.refused += whole.refused
        for power in range(whole.disk.reached() - start + 1):
            life = Life(self, seed, blocks, ring, keys)
            life.disk.power(power)
            life.calls(many)
            life.check_lying()
            life.disk.cut()
            life.opened_amid()
            life.opened()
            life.disk.power(life.draw.choice([None, 0, 1, 2, 5, 9]))
            life.calls(10)
            life.disk.cut()
            life.opened()
        return whole.disk.reached() - start

    def setUp(self):
        self.failed = 0
        self.refused = 0

    def test_each_number_of_writes(self):
        reached = sum(self.all_powers(seed, 64, 12 + seed % 3, 70) for seed in range(40))
        self.assertGreater(reached, 1200)
        self.assertGreater(self.refused, 10)

    def test_small_rings(self):
        reached = sum(self.all_powers(seed, 48, 4 + seed % 2, 60, MANY_KEYS) for seed in range(24))
        self.assertGreater(reached, 1000)
        self.assertGreater(self.failed, 10)

    def test_disks_that_run_out(self):
        for seed in range(12):
            self.all_powers(seed, 16, 8, 70, MANY_KEYS)
        self.assertGreater(self.failed, 10)

    def test_behind_each_call(self):
        """What lies there means a prefix, none ahead of what lasts, also where nothing is cut."""
        for seed in range(40):
            life = Life(self, seed, 48, 8)
            for _ in range(50):
                life.calls(1)
                life.check_lying()

    def test_cut_and_opened_again_and_again(self):
        numbers_again = 0
        for seed in range(60):
            life = Life(self, seed, 64, 8)
            for _ in range(10):
                life.disk.power(life.draw.choice([None, None, 2, 6, 15, 30]))
                life.calls(life.draw.randrange(25))
                life.disk.cut()
                ahead = len(life.dicts)
                life.opened()
                numbers_again += ahead - len(life.dicts)
            self.assertGreater(life.disk.lying(0)[1], 10)
        self.assertGreater(numbers_again, 50)

    def test_opened_over_waiting_writes(self):
        """A second store is opened while writes wait and pages are dirty, with power for each number of writes."""
        for seed in range(30):
            power = 0
            while True:
                life = Life(self, seed, 48, 8)
                life.calls(40)
                told = len(life.dicts) - 1
                life.disk.power(power)
                try:
                    other = Store(life.disk)
                except Stopped:
                    life.check_lying()
                    life.disk.cut()
                    life.opened()
                    power += 1
                else:
                    self.assertEqual((other.last(), other.now(), other.lasting()), (told, life.dicts[-1], told))
                    break
            life.disk.cut()
            life.sure = told
            life.opened()
            life.calls(20)

    def test_stopped(self):
        life = Life(self, 1, 64, 12)
        store = life.store
        number = store.begin()
        store.put(number, "a", 5)
        life.disk.power(0)
        self.assertRaises(Stopped, store.commit, number)
        self.assertEqual((meaning(life.disk), life.disk.lying(1), life.disk.reached()), ({}, (), 3))
        life.disk.cut()
        life.opened()
        self.assertEqual((life.store.begin(), life.store.stands_at(0), life.store.get(0, "a")), (0, 0, None))
        life.store.put(0, "a", 7)
        life.disk.power(1)
        self.assertEqual((life.store.commit(0), life.store.last(), life.store.lasting()), (1, 1, 1))
        self.assertRaises(Stopped, Store, life.disk)
        life.disk.cut()
        self.assertEqual(Store(life.disk).now(), {"a": 7})
        life.disk.power(0)
        self.assertRaises(Stopped, Store, life.disk)

    def test_stopped_by_calls_of_all_kinds(self):
        for name in ("force", "checkpoint", "vacuum", "sweep", "write_out", "commit"):
            life = Life(self, 3, 64, 5)
            store = life.store
            for worth in range(3):
                number = store.begin()
                store.put(number, "a", worth)
                store.commit_soon(number)
            looker = store.begin()
            if name in ("vacuum", "sweep"):
                while store.pages.room() > 0:
                    number = store.begin()
                    store.put(number, "a", 9)
                    store.commit_soon(number)
                    store.disk().calm()
            life.disk.power(0)
            arguments = {"sweep": (1,), "write_out": (1,), "commit": (looker,)}.get(name, ())
            self.assertRaises(Stopped, getattr(store, name), *arguments)
            self.assertIs(store.disk(), life.disk)
            life.disk.cut()
            self.assertEqual(Store(life.disk).now(), {"a": 9} if name in ("vacuum", "sweep") else {})

    def test_a_commit_that_no_power_was_needed_for(self):
        life = Life(self, 3, 64, 12)
        store = life.store
        number = store.begin()
        store.put(number, "a", 1)
        store.commit_soon(number)
        store.force()
        looker = store.begin()
        life.disk.power(0)
        self.assertIsNone(store.commit(looker))
        self.assertIsNone(store.force())
        number = store.begin()
        store.put(number, "b", 1)
        self.assertEqual(store.commit_soon(number), 2)
        self.assertRaises(Stopped, store.force)


if __name__ == "__main__":
    unittest.main()
