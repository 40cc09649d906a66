import random
import unittest

from wholecommits.disk import Disk
from wholecommits.errors import BadDisk, Stopped
from wholecommits.log import Log, formatted
from wholecommits.pages import Pages
from wholecommits.recovery import commits_of, meaning, pages_of, prefix_of
from wholecommits.store import Store, new_store
from tests.log_rules import lying, prefix_in
from tests.lying_rules import dict_lying, last_lying, notes_lying, pages_lying
from tests.store_rules import Beside, one_deed, put_all
from tests.things import plain_integer, things

READERS = (pages_of, prefix_of, meaning, commits_of)
DUE = (pages_lying, notes_lying, dict_lying, last_lying)


def rewritten(disk, block, content):
    """A copy of a disk on which another content lies in a block."""
    other = disk.copy()
    other.write(block, content)
    other.calm()
    return other


def is_good(disk):
    """Whether a disk has a master, batches' records and a meta page, by what lies there."""
    blocks = lying(disk)
    master = blocks[0]
    if len(master) != 6 or master[0] != "master" or not all(plain_integer(item, 0, 10 ** 30) for item in master[1:]):
        return False
    if master[1] == 10 ** 30:
        # The epoch of an opening, one more, would be no item.
        return False
    if not 4 <= master[2] <= len(blocks) - 8:
        return False
    meta = pages_in_or_none(blocks)
    if meta is None or len(meta) != 5 or meta[0] != "meta":
        return False
    _, head, high, root, last = meta
    if not plain_integer(high, 1, len(blocks) - master[2] - 1):
        return False
    return ((head == -1 or plain_integer(head, 1, high - 1)) and plain_integer(root, 0, high - 1)
            and plain_integer(last, 0, 10 ** 30))


def pages_in_or_none(blocks):
    """The items of page 0, None where a record is no batch's."""
    meta = blocks[blocks[0][2] + 1][1:]
    for _, record in prefix_in(blocks)[0]:
        rest = list(record)
        many = rest.pop(0)
        if not plain_integer(many, 0, len(rest)):
            return None
        del rest[:many]
        while rest:
            page = rest.pop(0)
            many = rest.pop(0) if rest else None
            if not plain_integer(page, 0, 600) or not plain_integer(many, 0, len(rest)):
                return None
            if page == 0:
                meta = tuple(rest[:many])
            del rest[:many]
    return meta


class Recovery(unittest.TestCase):

    def check(self, disk):
        """Read a disk, which stays as it is; compare with the test's own reading."""
        before = (lying(disk), disk.waiting(), disk.reached(), [disk.read(block) for block in range(disk.blocks())])
        told = [reader(disk) for reader in READERS]
        self.assertEqual((lying(disk), disk.waiting(), disk.reached(),
                          [disk.read(block) for block in range(disk.blocks())]), before)
        self.assertEqual(told, [reader(disk) for reader in DUE])
        self.assertEqual([type(thing) for thing in told], [dict, list, dict, int])
        for thing in told[:3]:
            thing.clear()
        self.assertEqual([reader(disk) for reader in READERS], [reader(disk) for reader in DUE])
        return DUE[2](disk)

    def bad(self, disk):
        for reader in READERS:
            self.assertRaises(BadDisk, reader, disk)

    def test_a_new_disk(self):
        disk = formatted(64, 24)
        self.check(disk)
        self.assertEqual([reader(disk) for reader in READERS], [{0: ("meta", -1, 1, 0, 0)}, [], {}, 0])

    def test_one_by_hand(self):
        store = new_store(64, 24)
        put_all(store, {"a": 5, "b": 6})
        put_all(store, {"a": 7})
        number = store.begin()
        store.drop(number, "b")
        store.commit(number)
        store.vacuum()
        disk = store.disk()
        self.assertEqual(self.check(disk), {"a": 7})
        self.assertEqual(prefix_of(disk), [(0, ("commit", 1)), (1, ("commit", 2)), (2, ("commit", 3))])
        store.force()
        self.assertEqual(prefix_of(disk)[3:], [(3, ("sweep",))])
        self.assertEqual(pages_of(disk), {0: ("meta", -1, 2, 1, 3), 1: ("leaf", "a", -2, 1, 7)})
        store.checkpoint()
        self.assertEqual((prefix_of(disk), meaning(disk), commits_of(disk)), ([], {"a": 7}, 3))

    def test_what_waits_does_not_count(self):
        store = new_store(64, 24)
        put_all(store, {"a": 1})
        for worth in (2, 3, 4):
            put_all(store, {"a": worth}, soon=True)
        disk = store.disk()
        self.assertEqual((self.check(disk), commits_of(disk), len(prefix_of(disk))), ({"a": 1}, 1, 1))
        disk.reach(3)
        self.assertEqual((self.check(disk), commits_of(disk)), ({"a": 1}, 1))
        disk.reach(2)
        self.assertEqual((self.check(disk), commits_of(disk)), ({"a": 3}, 3))
        disk.power(0)
        self.assertEqual((self.check(disk), commits_of(disk)), ({"a": 3}, 3))
        self.assertRaises(Stopped, store.force)

    def test_behind_drawn_rows_of_calls(self):
        for seed in range(60):
            draw = random.Random(seed)
            beside = Beside(self, new_store(64, draw.choice([6, 12, 30])), [{}], {})
            for _ in range(80):
                one_deed(draw, beside)
                last = commits_of(beside.disk)
                self.assertEqual(self.check(beside.disk), beside.dicts[last])
                self.assertLessEqual(beside.lasting(), last)
                self.assertLessEqual(last, beside.last())
            lasting = beside.lasting()
            for block in draw.sample(sorted(beside.disk.waiting()), len(beside.disk.waiting()) // 2):
                beside.disk.force((block,))
            last = commits_of(beside.disk)
            beside.disk.cut()
            self.assertGreaterEqual(last, lasting)
            self.assertEqual((self.check(beside.disk), commits_of(beside.disk)), (beside.dicts[last], last))
            self.assertEqual(Store(beside.disk).now(), beside.dicts[last])
            self.assertEqual(self.check(beside.disk), beside.dicts[last])

    def test_behind_each_write_of_each_call(self):
        """Behind each write that reaches the disk its meaning is that ahead of the call, or that behind it."""
        for name in ("commit", "sweep", "vacuum", "checkpoint", "write_out", "force", "opening"):
            for seed in range(12):
                power = 0
                while True:
                    store = self.busy_store(seed)
                    disk = store.disk()
                    ahead = [dict_lying(disk), *self.worths]
                    disk.power(power)
                    if self.is_done(store, name):
                        break
                    self.assertIn(self.check(disk), ahead)
                    disk.cut()
                    kept = self.check(disk)
                    self.assertIn(kept, ahead)
                    self.assertEqual((Store(disk).now(), self.check(disk)), (kept, kept))
                    power += 1
                self.assertIn(self.check(disk), [*ahead, *self.worths])

    def busy_store(self, seed):
        """A store with waiting writes, dirty pages and versions that can go; worths tells all that may be meant."""
        draw = random.Random(seed)
        store = new_store(64, 14)
        self.worths = []
        for _ in range(9):
            put_all(store, {key: draw.randrange(99) for key in draw.sample("abcdefghijkl", 4)}, soon=True)
            self.worths.append(store.now())
            if draw.random() < 0.2:
                store.write_out(0)
            for block in draw.sample(sorted(store.disk().waiting()), len(store.disk().waiting()) // 3):
                store.disk().reach(block)
        return store

    def is_done(self, store, name):
        """Whether there was power for all of a call."""
        try:
            if name == "commit":
                put_all(store, {"a": 100, "b": 101, "q": 102})
                self.worths.append(store.now())
            elif name == "opening":
                Store(store.disk())
            elif name == "sweep":
                store.sweep(1000)
                store.force()
            elif name == "write_out":
                store.write_out(store.dirty()[-1])
            else:
                getattr(store, name)()
        except Stopped:
            return False
        return True

    def test_what_is_no_disk(self):
        for thing in things():
            if not isinstance(thing, Disk):
                self.bad(thing)
            elif is_good(thing):
                self.check(thing)
            else:
                self.bad(thing)
        self.bad(Disk(64))

    def test_each_part_of_the_master(self):
        store = new_store(40, 12)
        for worth in range(4):
            put_all(store, {"a": worth})
        store.write_out(1)
        store.force()
        disk = store.disk()
        disk.calm()
        master = disk.lying(0)
        self.assertEqual(master, ("master", 1, 12, 0, 0, 0))
        bad = 0
        for at in range(6):
            for thing in ("", "x", "master", "meta", -1, 0, 1, 2, 3, 4, 11, 12, 13, 32, 33, 10 ** 30, -10 ** 30):
                other = rewritten(disk, 0, (*master[:at], thing, *master[at + 1:]))
                if is_good(other):
                    self.check(other)
                else:
                    bad += 1
                    self.bad(other)
        self.assertGreater(bad, 40)
        for content in ((), master[:5], (*master, 0), ("master",), (1,) * 6, (-1, "meta", -1, 1, 0, 0)):
            self.bad(rewritten(disk, 0, content))

    def test_each_part_of_the_meta_page(self):
        disk = formatted(40, 12)
        meta = disk.lying(13)
        self.assertEqual(meta, (-1, "meta", -1, 1, 0, 0))
        bad = 0
        for at in range(6):
            for thing in ("", "x", "meta", "free", -1, -2, 0, 1, 2, 26, 27, 28, 10 ** 30, -10 ** 30):
                other = rewritten(disk, 13, (*meta[:at], thing, *meta[at + 1:]))
                if not is_good(other):
                    bad += 1
                    self.bad(other)
                elif at in (0, 5):
                    self.check(other)
        self.assertGreater(bad, 30)
        for content in ((), meta[:5], (*meta, 0), meta[1:], ("meta",)):
            self.bad(rewritten(disk, 13, content))

    def test_blocks_of_the_log_that_hold_other_things(self):
        store = new_store(40, 12)
        for worth in range(4):
            put_all(store, {"a": worth})
        disk = store.disk()
        disk.calm()
        for block in range(1, 13):
            for content in ((), ("x",), (1,), (0, 1, 0, 0), ("a", "b", "c", "d", "e"),
                            (block - 1, 0, block - 1, 0, 1, "x"), (block, 1, block - 1, 0, 1, "x"),
                            (block - 1, 9, block - 1, 0, 1, "x"), disk.lying(1)):
                other = rewritten(disk, block, content)
                if is_good(other):
                    self.check(other)
                else:
                    self.bad(other)

    def test_records_that_are_no_batch_s(self):
        for record in (("a", 1), (0, 5), (0, 0, 9), (5, 1), (-1,), (41,) + (0,) * 41, (0, 99, 1, "x"), (0, -1, 1, "x"),
                       (1, "note", 0, 3, "x"), (0, "x", 1, "x"), (0, 1, "x", "x"), (0, 1, 40) + (0,) * 40, (0, 1, 0),
                       (0, 15, 1, "x"), (0, 1, 1, "x", 2), (0, 1, 1, "x", 2, 1), (41,) + (0,) * 41 + (1, 1, "x")):
            disk = formatted(24, 8)
            log = Log(disk)
            log.append(record)
            log.force(0)
            self.bad(disk)
            self.assertRaises(BadDisk, Pages, disk)
            self.assertRaises(BadDisk, Store, disk)
            self.assertEqual(disk.lying(0), ("master", 1, 8, 0, 0, 0))
            self.assertEqual(Log(disk).records(), [(0, record)])

    def test_records_that_a_batch_can_be(self):
        for record in ((0,), (1, "note"), (40,) + (7,) * 40, (0, 14, 1, "x"), (0, 1, 39) + ("x",) * 39,
                       (0, 1, 1, "x", 2, 2, "x", 5), (0, 0, 5, "meta", -1, 3, 0, 9)):
            disk = formatted(24, 8)
            log = Log(disk)
            log.append(record)
            log.force(0)
            self.check(disk)
            self.assertEqual(Pages(disk).notes(), [(0, record[1:1 + record[0]])])

    def test_trees_that_tell_no_versions(self):
        for items in (("leaf", 5), ("inner", 1), ("new",), ("leaf",), ("leaf", "a", -2, 1, 5, "a", -1, 1, 4), ("x", 1)):
            disk = formatted(24, 8)
            pages = Pages(disk)
            batch = pages.batch()
            batch.take_page()
            batch.put(1, items)
            batch.set_root(1)
            batch.done(())
            pages.force(0)
            if items[5:6] == ("a",):
                self.assertEqual(meaning(disk), {"a": 5})
            else:
                self.assertRaises(BadDisk, meaning, disk)
            self.assertEqual((pages_of(disk), prefix_of(disk), commits_of(disk)),
                             ({0: ("meta", -1, 2, 1, 0), 1: items}, [(0, ())], 0))


if __name__ == "__main__":
    unittest.main()
