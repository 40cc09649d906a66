import random
import unittest

from wholecommits.disk import Disk
from wholecommits.errors import BadDisk, NoBlock, NoContent, NoNumber, NothingWaits, Stopped
from tests.things import plain_integer, plain_lot, plain_row, things


class Disks(unittest.TestCase):

    def test_size(self):
        for thing in things():
            if plain_integer(thing, 16, 600):
                disk = Disk(thing)
                self.assertEqual(disk.blocks(), thing)
                self.assertEqual([disk.read(block) for block in range(thing)], [()] * thing)
                self.assertEqual([disk.lying(block) for block in range(thing)], [()] * thing)
            else:
                self.assertRaises(BadDisk, Disk, thing)
        self.assertRaises(BadDisk, Disk, 15)

    def test_a_write_waits_and_is_read(self):
        disk = Disk(16)
        self.assertIsNone(disk.write(3, ("a", 1)))
        self.assertIsNone(disk.write(3, ("b",)))
        disk.write(1, ())
        self.assertEqual((disk.read(3), disk.lying(3), disk.waiting(), disk.reached()), (("b",), (), {1: 1, 3: 2}, 0))
        self.assertIsNone(disk.reach(3))
        self.assertEqual((disk.read(3), disk.lying(3), disk.waiting(), disk.reached()),
                         (("b",), ("a", 1), {1: 1, 3: 1}, 1))
        self.assertIsNone(disk.cut())
        self.assertEqual((disk.read(3), disk.lying(3), disk.waiting(), disk.reached()), (("a", 1), ("a", 1), {}, 1))

    def test_force_and_calm(self):
        disk = Disk(16)
        for block in (5, 2, 5, 9):
            disk.write(block, (block, disk.reached()))
        self.assertIsNone(disk.force((3, 5)))
        self.assertEqual((disk.waiting(), disk.reached()), ({2: 1, 9: 1}, 2))
        self.assertIsNone(disk.force(()))
        self.assertIsNone(disk.calm())
        self.assertEqual((disk.waiting(), disk.reached()), ({}, 4))
        self.assertIsNone(disk.calm())

    def test_power(self):
        disk = Disk(16)
        for block in (1, 1, 2, 3):
            disk.write(block, (block,))
        self.assertIsNone(disk.power(3))
        self.assertRaises(Stopped, disk.force, (1, 2, 3))
        self.assertEqual((disk.waiting(), disk.lying(2), disk.lying(3), disk.reached()), ({3: 1}, (2,), (), 3))
        self.assertRaises(Stopped, disk.reach, 3)
        self.assertRaises(Stopped, disk.calm)
        disk.power(None)
        disk.reach(3)
        disk.power(0)
        disk.write(4, (4,))
        self.assertRaises(NothingWaits, disk.reach, 3)
        disk.force((3,))
        disk.cut()
        disk.write(4, (5,))
        disk.calm()
        self.assertEqual(disk.lying(4), (5,))

    def test_a_copy_has_what_lies_there_alone(self):
        disk = Disk(20)
        disk.write(1, ("a",))
        disk.calm()
        disk.write(1, ("b",))
        disk.power(0)
        other = disk.copy()
        self.assertEqual((other.blocks(), other.read(1), other.waiting(), other.reached()), (20, ("a",), {}, 0))
        other.write(1, ("c",))
        other.calm()
        self.assertEqual((disk.lying(1), disk.waiting()), (("a",), {1: 1}))
        self.assertFalse(disk == other)

    def test_wrong_things(self):
        disk = Disk(24)
        disk.write(0, ("a",))
        for thing in things():
            if not plain_integer(thing, 0, 23):
                self.assertRaises(NoBlock, disk.write, thing, None)
                self.assertRaises(NoBlock, disk.read, thing)
                self.assertRaises(NoBlock, disk.reach, thing)
                self.assertRaises(NoBlock, disk.lying, thing)
            if not plain_lot(thing, 24):
                self.assertRaises(NoBlock, disk.force, thing)
            if not plain_row(thing, 0, 40):
                self.assertRaises(NoContent, disk.write, 1, thing)
            if thing is not None and not plain_integer(thing, 0, 10 ** 6):
                self.assertRaises(NoNumber, disk.power, thing)
        for lot in ((24,), (0, 24), (23, 25), (-1,)):
            self.assertRaises(NoBlock, disk.force, lot)
        for block in (24, 25, -1):
            self.assertRaises(NoBlock, disk.write, block, ())
        self.assertEqual((disk.waiting(), disk.reached()), ({0: 1}, 0))

    def test_what_is_returned_is_new(self):
        disk = Disk(16)
        disk.write(1, ())
        disk.waiting().clear()
        self.assertEqual(disk.waiting(), {1: 1})

    def test_errors_come_in_their_order(self):
        disk = Disk(16)
        disk.write(1, ("a",))
        disk.power(0)
        for call in (lambda: disk.write(16, None), lambda: disk.reach(16), lambda: disk.force((16,)),
                     lambda: disk.force((1, 0))):
            self.assertRaises(NoBlock, call)
        self.assertRaises(NoContent, disk.write, 1, [])
        self.assertRaises(NothingWaits, disk.reach, 0)
        self.assertRaises(NoNumber, disk.power, -1)
        for call in (lambda: disk.reach(1), lambda: disk.force((0, 1)), disk.calm):
            self.assertRaises(Stopped, call)
        disk.force((0, 2))
        self.assertEqual((disk.waiting(), disk.lying(1), disk.reached()), ({1: 1}, (), 0))

    def test_what_may_be_passed(self):
        disk = Disk(600)
        for thing in things():
            if plain_row(thing, 0, 40):
                disk.write(599, thing)
                self.assertEqual(disk.read(599), thing)
            if plain_lot(thing, 600):
                self.assertIsNone(disk.force(thing))
            if thing is None or plain_integer(thing, 0, 10 ** 6):
                self.assertIsNone(disk.power(thing))
                disk.cut()


class Account:
    """A disk beside plain rows: what lies in each block, and behind that what waits for it."""

    def __init__(self, case, disk, blocks):
        self.case = case
        self.disk = disk
        self.rows = [[()] for _ in range(blocks)]
        self.left = None
        self.arrived = 0

    def waiting(self):
        return {block: len(row) - 1 for block, row in enumerate(self.rows) if len(row) > 1}

    def write(self, block, content):
        self.case.assertIsNone(self.disk.write(block, content))
        self.rows[block].append(content)

    def reach(self, block):
        self.let([block], lambda: self.disk.reach(block))

    def force(self, lot):
        self.let([block for block in lot for _ in self.rows[block][1:]], lambda: self.disk.force(lot))

    def calm(self):
        self.let([block for block in range(len(self.rows)) for _ in self.rows[block][1:]], self.disk.calm)

    def let(self, blocks, call):
        """Let the eldest writes for these blocks reach the disk, one behind another, as far as there is power."""
        many = len(blocks) if self.left is None else min(self.left, len(blocks))
        if many < len(blocks):
            self.case.assertRaises(Stopped, call)
        else:
            self.case.assertIsNone(call())
        for block in blocks[:many]:
            del self.rows[block][0]
        self.arrived += many
        self.left = None if self.left is None else self.left - many
        self.compare()
        if many < len(blocks):
            self.cut()

    def power(self, many):
        self.case.assertIsNone(self.disk.power(many))
        self.left = many

    def cut(self):
        self.case.assertIsNone(self.disk.cut())
        self.rows = [row[:1] for row in self.rows]
        self.left = None

    def compare(self):
        disk, case = self.disk, self.case
        case.assertEqual([disk.lying(at) for at in range(len(self.rows))], [row[0] for row in self.rows])
        case.assertEqual([disk.read(at) for at in range(len(self.rows))], [row[-1] for row in self.rows])
        case.assertEqual((disk.waiting(), disk.reached(), disk.blocks()),
                         (self.waiting(), self.arrived, len(self.rows)))

    def copied(self):
        """An account of a copy, which has what lies there alone."""
        other = Account(self.case, self.disk.copy(), len(self.rows))
        other.rows = [row[:1] for row in self.rows]
        other.compare()
        return other


def one_deed(draw, account, step):
    blocks = len(account.rows)
    deed = draw.choice(["write"] * 6 + ["reach"] * 4 + ["force", "force", "calm", "power", "cut"])
    if deed == "write":
        content = draw.choice([(), (step,), ("a", step), (step,) * 40])
        account.write(draw.randrange(blocks), content)
    elif deed == "reach" and account.waiting():
        account.reach(draw.choice(sorted(account.waiting())))
    elif deed == "force":
        account.force(tuple(sorted(draw.sample(range(blocks), draw.randrange(5)))))
    elif deed == "calm" and draw.random() < 0.3:
        account.calm()
    elif deed == "power":
        account.power(draw.choice([None, 0, 1, 2, 5, 10 ** 6]))
    elif deed == "cut" and draw.random() < 0.3:
        account.cut()


class Rows(unittest.TestCase):

    def test_drawn_rows(self):
        for seed in range(30):
            draw = random.Random(seed)
            blocks = draw.choice([16, 17, 30])
            account = Account(self, Disk(blocks), blocks)
            for step in range(200):
                one_deed(draw, account, step)
                account.compare()

    def test_copies_go_on_apart(self):
        for seed in range(15):
            draw = random.Random(seed)
            accounts = [Account(self, Disk(16), 16)]
            for step in range(150):
                if step % 40 == 30:
                    accounts.append(draw.choice(accounts).copied())
                one_deed(draw, draw.choice(accounts), step)
                for account in accounts:
                    account.compare()

    def test_power_for_each_number_of_writes(self):
        for many in range(9):
            for deed in ("calm", "force", "reach"):
                account = Account(self, Disk(16), 16)
                for step, block in enumerate((5, 3, 5, 7, 3, 0, 5)):
                    account.write(block, (step,))
                account.power(many)
                if deed == "calm":
                    account.calm()
                elif deed == "force":
                    account.force((0, 1, 3, 5, 7, 15))
                else:
                    for block in (7, 5, 5, 0, 3, 5, 3):
                        if block in account.waiting():
                            account.reach(block)
                self.assertEqual(account.arrived, min(many, 7))
                account.compare()
        account = Account(self, Disk(16), 16)
        for step in range(5):
            account.write(2, (step,))
        account.power(3)
        account.power(2)
        account.power(4)
        account.calm()
        self.assertEqual((account.disk.lying(2), account.arrived), ((3,), 4))


if __name__ == "__main__":
    unittest.main()
