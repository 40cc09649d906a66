import random
import unittest

from wholecommits.disk import Disk
from wholecommits.errors import BadDisk, NoBlock, NoContent, NoNumber, NothingWaits, Stopped
from tests.things import plain_integer, plain_lot, plain_row, things


class Disks(unittest.TestCase):

    def test_size(self):
        for thing in things():
            if plain_integer(thing, 16, 600):
                disk = Disk(thing)
                self.assertEqual(disk.blocks(), thing)
                self.assertEqual([disk.read(block) for block in range(thing)], [()] * thing)
                self.assertEqual([disk.lying(block) for block in range(thing)], [()] * thing)
            else:
                self.assertRaises(BadDisk, Disk, thing)
        self.assertRaises(BadDisk, Disk, 15)

    def test_a_write_waits_and_is_read(self):
        disk = Disk(16)
        self.assertIsNone(disk.write(3, ("a", 1)))
        self.assertIsNone(disk.write(3, ("b",)))
        disk.write(1, ())
        self.assertEqual((disk.read(3), disk.lying(3), disk.waiting(), disk.reached()), (("b",), (), {1: 1, 3: 2}, 0))
        self.assertIsNone(disk.reach(3))
        self.assertEqual((disk.read(3), disk.lying(3), disk.waiting(), disk.reached()),
                         (("b",), ("a", 1), {1: 1, 3: 1}, 1))
        self.assertIsNone(disk.cut())
        self.assertEqual((disk.read(3), disk.lying(3), disk.waiting(), disk.reached()), (("a", 1), ("a", 1), {}, 1))

    def test_force_and_calm(self):
        disk = Disk(16)
        for block in (5, 2, 5, 9):
            disk.write(block, (block, disk.reached()))
        self.assertIsNone(disk.force((3, 5)))
        self.assertEqual((disk.waiting(), disk.reached()), ({2: 1, 9: 1}, 2))
        self.assertIsNone(disk.force(()))
        self.assertIsNone(disk.calm())
        self.assertEqual((disk.waiting(), disk.reached()), ({}, 4))
        self.assertIsNone(disk.calm())

    def test_power(self):
        disk = Disk(16)
        for block in (1, 1, 2, 3):
            disk.write(block, (block,))
        self.assertIsNone(disk.power(3))
        self.assertRaises(Stopped, disk.force, (1, 2, 3))
        self.assertEqual((disk.waiting(), disk.lying(2), disk.lying(3), disk.reached()), ({3: 1}, (2,), (), 3))
        self.assertRaises(Stopped, disk.reach, 3)
        self.assertRaises(Stopped, disk.calm)
        disk.power(None)
        disk.reach(3)
        disk.power(0)
        disk.write(4, (4,))
        self.assertRaises(NothingWaits, disk.reach, 3)
        disk.force((3,))
        disk.cut()
        disk.write(4, (5,))
        disk.calm()
        self.assertEqual(disk.lying(4), (5,))

    def test_a_copy_has_what_lies_there_alone(self):
        disk = Disk(20)
        disk.write(1, ("a",))
        disk.calm()
        disk.write(1, ("b",))
        disk.power(0)
        other = disk.copy()
        self.assertEqual((other.blocks(), other.read(1), other.waiting(), other.reached()), (20, ("a",), {}, 0))
        other.write(1, ("c",))
        other.calm()
        self.assertEqual((disk.lying(1), disk.waiting()), (("a",), {1: 1}))
        self.assertFalse(disk == other)

    def test_wrong_things(self):
        disk = Disk(24)
        disk.write(0, ("a",))
        for thing in things():
            if not plain_integer(thing, 0, 23):
                self.assertRaises(NoBlock, disk.write, thing, None)
                self.assertRaises(NoBlock, disk.read, thing)
                self.assertRaises(NoBlock, disk.reach, thing)
                self.assertRaises(NoBlock, disk.lying, thing)
            if not plain_lot(thing, 24):
                self.assertRaises(NoBlock, disk.force, thing)
            if not plain_row(thing, 0, 40):
                self.assertRaises(NoContent, disk.write, 1, thing)
            if thing is not None and not plain_integer(thing, 0, 10 ** 6):
                self.assertRaises(NoNumber, disk.power, thing)
        for lot in ((24,), (0, 24), (23, 25), (-1,)):
            self.assertRaises(NoBlock, disk.force, lot)
        for block in (24, 25, -1):
            self.assertRaises(NoBlock, disk.write, block, ())
        self.assertEqual((disk.waiting(), disk.reached()), ({0: 1}, 0))

    def test_what_is_returned_is_new(self):
        disk = Disk(16)
        disk.write(1, ())
        disk.waiting().clear()
        self.assertEqual(disk.waiting(), {1: 1})

    def test_against_plain_lists(self):
        draw = random.Random(3)
        disk = Disk(16)
        lies = [[()] for _ in range(16)]
        arrived = 0
        for step in range(2000):
            block = draw.randrange(16)
            deed = draw.choice(["write", "write", "reach", "force", "cut"])
            if deed == "write":
                disk.write(block, (step,))
                lies[block].append((step,))
            elif deed == "reach" and len(lies[block]) > 1:
                disk.reach(block)
                lies[block].pop(0)
                arrived += 1
            elif deed == "force":
                disk.force((block,))
                arrived += len(lies[block]) - 1
                lies[block] = lies[block][-1:]
            elif deed == "cut" and step % 7 == 0:
                disk.cut()
                lies = [row[:1] for row in lies]
            self.assertEqual([disk.lying(at) for at in range(16)], [row[0] for row in lies])
            self.assertEqual([disk.read(at) for at in range(16)], [row[-1] for row in lies])
            self.assertEqual(disk.waiting(), {at: len(row) - 1 for at, row in enumerate(lies) if len(row) > 1})
            self.assertEqual(disk.reached(), arrived)


if __name__ == "__main__":
    unittest.main()
