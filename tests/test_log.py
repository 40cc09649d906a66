import random
import unittest

from wholecommits.disk import Disk
from wholecommits.errors import BadDisk, LogFull, NoNumber, NoRecord, Stopped
from wholecommits.log import Log, formatted
from tests.things import plain_integer, plain_row, things


def drawn_record(draw):
    return tuple([draw.randrange(1000) for _ in range(draw.choice([1, 5, 36, 37, 72, 80, 100]))])


def cut_somewhere(draw, disk):
    """Let some of what waits reach the disk, then cut."""
    for _ in range(draw.randrange(8)):
        waiting = sorted(disk.waiting())
        if waiting:
            disk.reach(draw.choice(waiting))
    disk.cut()


class Formatted(unittest.TestCase):

    def test_what_lies_there(self):
        disk = formatted(24, 8)
        self.assertEqual(disk.lying(0), ("master", 0, 8, 0, 0, 0))
        self.assertEqual(disk.lying(9), (-1, "meta", -1, 1, 0, 0))
        self.assertEqual((disk.blocks(), disk.waiting(), disk.reached()), (24, {}, 2))
        self.assertEqual([block for block in range(24) if disk.lying(block) != ()], [0, 9])

    def test_wrong_sizes(self):
        for thing in things():
            if not plain_integer(thing, 16, 600):
                self.assertRaises(BadDisk, formatted, thing, 4)
            if not plain_integer(thing, 4, 16):
                self.assertRaises(BadDisk, formatted, 24, thing)
        self.assertRaises(BadDisk, formatted, 24, 3)
        self.assertRaises(BadDisk, formatted, 24, 17)
        self.assertEqual(formatted(24, 16).blocks(), 24)
        self.assertEqual(formatted(16, 4).blocks(), 16)
        self.assertEqual(formatted(600, 592).lying(593), (-1, "meta", -1, 1, 0, 0))


class Logs(unittest.TestCase):

    def test_pieces(self):
        disk = formatted(24, 8)
        log = Log(disk)
        record = tuple(range(80))
        self.assertEqual(log.append(record), 0)
        self.assertEqual(disk.waiting(), {1: 1, 2: 1, 3: 1})
        self.assertEqual(disk.read(1), (0, 1, 0, 2) + record[:36])
        self.assertEqual(disk.read(2), (1, 1, 0, 1) + record[36:72])
        self.assertEqual(disk.read(3), (2, 1, 0, 0) + record[72:])
        self.assertEqual(log.append(record[:36]), 1)
        self.assertEqual(disk.read(4), (3, 1, 1, 0) + record[:36])
        self.assertEqual((log.room(), log.ring_size(), log.last(), log.forced()), (4, 8, 1, -1))
        self.assertEqual(log.records(), [(0, record), (1, record[:36])])

    def test_full(self):
        disk = formatted(24, 4)
        log = Log(disk)
        self.assertRaises(LogFull, log.append, (0,) * 145)
        self.assertEqual((disk.waiting(), log.room(), log.last()), ({}, 4, -1))
        self.assertEqual(log.append((0,) * 144), 0)
        self.assertEqual(log.room(), 0)
        self.assertRaises(LogFull, log.append, (1,))
        self.assertIsNone(log.begin_at(1))
        self.assertEqual(log.room(), 4)
        self.assertEqual(log.append((7,)), 1)
        self.assertEqual(disk.read(1), (4, 1, 1, 0, 7))

    def test_begin_at(self):
        disk = formatted(24, 8)
        log = Log(disk)
        for item in range(4):
            log.append((item,) * 40)
        log.begin_at(2)
        self.assertEqual(disk.lying(0), ("master", 1, 8, 4, 2, 1))
        self.assertEqual((log.forced(), log.last(), log.room()), (1, 3, 4))
        self.assertEqual([number for number, _ in log.records()], [2, 3])
        self.assertEqual(disk.waiting(), {5: 1, 6: 1, 7: 1, 8: 1})
        self.assertRaises(NoNumber, log.begin_at, 1)
        self.assertRaises(NoNumber, log.begin_at, 5)
        self.assertRaises(NoNumber, log.force, 1)
        log.begin_at(4)
        self.assertEqual(disk.lying(0), ("master", 1, 8, 8, 4, 1))
        self.assertEqual((log.forced(), log.last(), log.records()), (3, 3, []))
        log = Log(disk)
        self.assertEqual(disk.lying(0), ("master", 2, 8, 8, 4, 1))
        self.assertEqual((log.forced(), log.last(), log.append((9,))), (3, 3, 4))
        log.begin_at(4)
        self.assertEqual(disk.lying(0), ("master", 2, 8, 8, 4, 2))

    def test_wrong_things(self):
        disk = formatted(24, 8)
        log = Log(disk)
        log.append((1,))
        for thing in things():
            if not plain_row(thing, 1, 6000):
                self.assertRaises(NoRecord, log.append, thing)
            if not plain_integer(thing, 0, 0):
                self.assertRaises(NoNumber, log.force, thing)
            if not plain_integer(thing, 0, 1):
                self.assertRaises(NoNumber, log.begin_at, thing)
            if not isinstance(thing, Disk) or thing.read(0) == ():
                self.assertRaises(BadDisk, Log, thing)
        self.assertEqual((log.records(), disk.waiting()), ([(0, (1,))], {1: 1}))
        self.assertRaises(LogFull, log.append, (0,) * 6000)

    def test_wrong_masters(self):
        for master in [(), ("master",), ("master", 0, 8, 0, 0), ("master", 0, 8, 0, 0, 0, 0), ("x", 0, 8, 0, 0, 0),
                       ("master", 0, 3, 0, 0, 0), ("master", 0, 17, 0, 0, 0), ("master", -1, 8, 0, 0, 0),
                       ("master", 0, 8, "a", 0, 0), ("master", 0, 8, 0, -1, 0), ("master", 0, 8, 0, 0, "")]:
            disk = formatted(24, 8)
            disk.write(0, master)
            self.assertRaises(BadDisk, Log, disk)
            self.assertEqual((disk.waiting(), disk.reached()), ({0: 1}, 2))

    def test_opening_lets_all_reach_and_writes_the_master_last(self):
        disk = formatted(24, 8)
        log = Log(disk)
        log.append((5,))
        disk.power(2)
        self.assertEqual(Log(disk).records(), [(0, (5,))])
        self.assertEqual((disk.waiting(), disk.reached()), ({}, 5))
        self.assertRaises(Stopped, Log, disk)
        self.assertEqual(disk.lying(0), ("master", 2, 8, 0, 0, 0))

    def test_pieces_of_elder_epochs_do_not_come_back(self):
        disk = formatted(24, 8)
        log = Log(disk)
        log.append((1,) * 40)
        log.append((2,))
        disk.force((2, 3))
        disk.cut()
        log = Log(disk)
        self.assertEqual(log.records(), [])
        log.append((3,) * 40)
        disk.force((1,))
        disk.cut()
        self.assertEqual(Log(disk).records(), [])
        log = Log(disk)
        log.append((4,) * 40)
        log.force(0)
        disk.cut()
        self.assertEqual(Log(disk).records(), [(0, (4,) * 40)])

    def test_force_forces_no_more_than_it_must(self):
        disk = formatted(24, 8)
        log = Log(disk)
        for item in range(3):
            log.append((item,))
        self.assertIsNone(log.force(1))
        self.assertEqual((disk.waiting(), log.forced()), ({3: 1}, 1))
        log.force(0)
        self.assertEqual(log.forced(), 1)
        log.begin_at(2)
        log.append((3,))
        log.append((4,))
        log.force(3)
        self.assertEqual((disk.waiting(), log.forced()), ({5: 1}, 3))

    def test_the_fact_of_the_log(self):
        for seed in range(150):
            draw = random.Random(seed)
            disk = formatted(24, draw.choice([4, 6, 8]))
            log = Log(disk)
            for _ in range(60):
                self.one_deed(draw, disk, log)
                if draw.random() < 0.15:
                    log = self.cut_and_opened(draw, disk, log)

    def one_deed(self, draw, disk, log):
        deed = draw.choice(["append", "append", "append", "force", "reach", "begin"])
        start = log.last() + 1 - len(log.records())
        if deed == "append":
            record = drawn_record(draw)
            if (len(record) + 35) // 36 <= log.room():
                log.append(record)
            else:
                self.assertRaises(LogFull, log.append, record)
        elif deed == "force" and log.records():
            number = draw.randint(start, log.last())
            log.force(number)
            self.assertGreaterEqual(log.forced(), number)
        elif deed == "reach" and disk.waiting():
            disk.reach(draw.choice(sorted(disk.waiting())))
        elif deed == "begin" and draw.random() < 0.4:
            log.begin_at(draw.randint(start, log.last() + 1))

    def cut_and_opened(self, draw, disk, log):
        records = log.records()
        forced = log.forced()
        last = log.last()
        start = last + 1 - len(records)
        cut_somewhere(draw, disk)
        for many in (0, 1):
            disk.power(many)
            if many == 0:
                self.assertRaises(Stopped, Log, disk)
            else:
                Log(disk)
            disk.cut()
        opened = Log(disk)
        found = opened.records()
        self.assertEqual(found, records[:len(found)])
        self.assertGreaterEqual(opened.last(), forced)
        self.assertEqual(opened.forced(), opened.last())
        self.assertEqual(opened.last() + 1 - len(found), start)
        return opened


if __name__ == "__main__":
    unittest.main()
