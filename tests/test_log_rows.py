import random
import unittest

from wholecommits.errors import LogFull, NoNumber, NoRecord, Stopped
from wholecommits.log import Log, formatted
from tests.log_rules import counting, lying, pieces_told, prefix_in, written
from tests.things import plain_integer, plain_row, things


class Row:
    """A record of the log: its number, its items, the running number of its first block, its epoch."""

    def __init__(self, number, items, block, epoch):
        self.number = number
        self.items = items
        self.block = block
        self.epoch = epoch

    def behind(self):
        return self.block + (len(self.items) + 35) // 36


class Account:
    """A log beside the test's own account of what is written in each block, and of what must never be read again."""

    def __init__(self, case, blocks, ring):
        self.case = case
        self.ring = ring
        self.disk = formatted(blocks, ring)
        self.made = 0
        self.dead = set()
        self.opens()

    def opens(self):
        """Open the log; all that waits is to reach the disk ahead of it."""
        contents = written(self.disk)
        _, epoch, _, self.start_block, self.start, self.first = contents[0]
        self.epoch = epoch + 1
        firsts = {}
        for piece in counting(contents):
            firsts.setdefault(piece.record, piece)
        self.rows = [Row(number, items, firsts[number].block, firsts[number].epoch)
                     for number, items in prefix_in(contents)[0]]
        self.contents = contents
        self.log = Log(self.disk)
        self.master(self.first)
        self.forced = self.last()
        self.case.assertEqual(lying(self.disk), self.contents)
        self.case.assertEqual(self.disk.waiting(), {})
        self.compare()

    def master(self, first):
        self.first = first
        self.contents[0] = ("master", self.epoch, self.ring, self.start_block, self.start, first)

    def last(self):
        return self.start + len(self.rows) - 1

    def behind(self):
        return self.rows[-1].behind() if self.rows else self.start_block

    def fresh(self, many):
        """A record of so many items that no other one is like."""
        self.made += 1
        return (self.made, *[(self.made * at) % 1009 for at in range(1, many)])

    def append(self, record):
        pieces = pieces_told(self.behind(), self.epoch, self.last() + 1, record)
        if self.behind() + len(pieces) - self.start_block > self.ring:
            self.case.assertRaises(LogFull, self.log.append, record)
            return False
        waiting = self.disk.waiting()
        self.case.assertEqual(self.log.append(record), self.last() + 1)
        self.rows.append(Row(self.last() + 1, record, self.behind(), self.epoch))
        for block, piece in pieces.items():
            self.contents[1 + block % self.ring] = piece
            waiting[1 + block % self.ring] = waiting.get(1 + block % self.ring, 0) + 1
        self.case.assertEqual(self.disk.waiting(), waiting)
        return True

    def force(self, number):
        waiting = self.disk.waiting()
        self.case.assertIsNone(self.log.force(number))
        for row in self.rows:
            if self.forced < row.number <= number:
                for block in range(row.block, row.behind()):
                    waiting.pop(1 + block % self.ring, None)
        self.forced = max(self.forced, number)
        self.case.assertEqual(self.disk.waiting(), waiting)

    def begin_at(self, number):
        self.case.assertIsNone(self.log.begin_at(number))
        self.forced = max(self.forced, number - 1)
        rest = [row for row in self.rows if row.number >= number]
        self.start_block = rest[0].block if rest else self.behind()
        self.start = number
        self.rows = rest
        self.master(rest[0].epoch if rest else self.epoch)
        self.case.assertEqual(self.disk.lying(0), self.contents[0])

    def compare(self):
        case, log = self.case, self.log
        case.assertEqual((log.forced(), log.last(), log.room(), log.ring_size()),
                         (self.forced, self.last(), self.ring - (self.behind() - self.start_block), self.ring))
        case.assertEqual(log.records(), [(row.number, row.items) for row in self.rows])
        case.assertEqual(written(self.disk), self.contents)

    def reach_some(self, draw, many):
        for _ in range(many):
            if self.disk.waiting():
                self.disk.reach(draw.choice(sorted(self.disk.waiting())))

    def cut(self, draw):
        """Cut and open, perhaps again and again, or with an opening that is stopped; then hold the fact of the log."""
        there = [row.items for row in self.rows]
        forced = self.forced
        self.reach_some(draw, draw.choice([0, 1, 3, 9]))
        for _ in range(draw.randrange(1, 4)):
            if draw.random() < 0.7:
                self.disk.cut()
            self.disk.power(draw.choice([0, 1, 2]))
            try:
                Log(self.disk)
            except Stopped:
                pass
            self.disk.cut()
        self.opens()
        found = [row.items for row in self.rows]
        self.case.assertEqual(found, there[:len(found)])
        self.case.assertGreaterEqual(self.last(), forced)
        self.case.assertEqual([items for items in found if items in self.dead], [])
        self.dead.update(there[len(found):])


def one_deed(draw, account, sizes):
    log = account.log
    deed = draw.choice(["append", "append", "append", "force", "reach", "reach", "begin"])
    if deed == "append":
        account.append(account.fresh(draw.choice(sizes)))
    elif deed == "force" and account.rows:
        account.force(draw.randint(account.start, account.last()))
    elif deed == "reach":
        account.reach_some(draw, 2)
    elif deed == "begin" and (draw.random() < 0.2 or log.room() < 2):
        account.begin_at(draw.randint(account.start, account.last() + 1))


class Rows(unittest.TestCase):

    def test_drawn_rows(self):
        for seed in range(500):
            draw = random.Random(seed)
            account = Account(self, 24, draw.choice([4, 5, 8, 16]))
            sizes = draw.choice([[1, 5, 36], [1, 36, 37, 72], [1, 80, 144, 100], [37, 73, 109]])
            for _ in range(80):
                one_deed(draw, account, sizes)
                account.compare()
                if draw.random() < 0.1:
                    account.cut(draw)
            self.assertGreater(account.epoch, 1)

    def test_round_and_round_the_ring(self):
        for ring in (4, 7, 16):
            account = Account(self, 24, ring)
            for turn in range(12):
                self.assertTrue(account.append(account.fresh(36 * (ring - 1))))
                self.assertFalse(account.append(account.fresh(37)))
                self.assertTrue(account.append(account.fresh(36)))
                self.assertFalse(account.append(account.fresh(1)))
                account.begin_at(account.last() + turn % 2)
                if turn % 2 == 0:
                    account.begin_at(account.last() + 1)
                self.assertTrue(account.append(account.fresh(36 * ring - turn)))
                self.assertFalse(account.append((1,)))
                account.compare()
                account.force(account.last())
                account.disk.cut()
                account.opens()
                account.begin_at(account.last() + 1)
                account.compare()
            self.assertEqual(account.start_block, 12 * 2 * ring)

    def test_a_record_of_all_blocks_that_is_cut_at_each(self):
        for ring in (4, 6):
            for lost in range(ring):
                account = Account(self, 24, ring)
                account.append(account.fresh(36))
                account.begin_at(1)
                account.append(account.fresh(36 * ring))
                for block in range(ring):
                    if block != lost:
                        account.disk.reach(1 + block)
                account.disk.cut()
                account.opens()
                self.assertEqual(account.rows, [])
                account.append(account.fresh(36 * ring - 1))
                account.disk.reach(1 + lost)
                account.disk.cut()
                account.opens()
                self.assertEqual(account.rows, [])

    def test_records_of_all_sizes(self):
        for many in (1, 2, 35, 36, 37, 71, 72, 73, 108, 1000, 5975, 5976, 5977, 5999, 6000):
            account = Account(self, 600, 592)
            record = account.fresh(many)
            self.assertTrue(account.append(record))
            account.compare()
            account.force(0)
            pieces = pieces_told(0, 1, 0, record)
            for block, piece in pieces.items():
                self.assertEqual(account.disk.lying(1 + block), piece)
                self.assertLessEqual(len(piece), 40)
            self.assertEqual(account.disk.lying(1 + len(pieces)), ())
            self.assertEqual(sum([piece[4:] for piece in pieces.values()], ()), record)
            account.disk.cut()
            account.opens()
            self.assertEqual(account.log.records(), [(0, record)])
        self.assertRaises(NoRecord, account.log.append, (1,) * 6001)
        self.assertRaises(NoRecord, account.log.append, ())

    def test_power_for_each_number_of_writes_while_it_is_opened(self):
        stopped = 0
        for many in range(12):
            draw = random.Random(many)
            account = Account(self, 24, 8)
            for size in (40, 1, 36, 100):
                account.append(account.fresh(size))
            account.force(1)
            there = [row.items for row in account.rows]
            waiting = account.disk.waiting()
            master = account.disk.lying(0)
            account.disk.power(many)
            if many < len(waiting) + 1:
                stopped += 1
                self.assertRaises(Stopped, Log, account.disk)
                # The master is not written ahead of the last of the others.
                self.assertEqual(sorted(account.disk.waiting()), sorted(waiting)[many:] or [0])
                self.assertEqual(account.disk.lying(0), master)
            else:
                Log(account.disk)
                self.assertEqual(account.disk.lying(0), (*master[:1], master[1] + 1, *master[2:]))
            account.disk.cut()
            account.opens()
            found = [row.items for row in account.rows]
            self.assertEqual(found, there[:len(found)])
            self.assertGreaterEqual(len(found), 2)
            one_deed(draw, account, [1])
        self.assertEqual(stopped, 5)

    def test_what_counts(self):
        """Blocks of which each one is in order but for one thing: what counts ends ahead of it."""
        rows = {1: (0, 2, 5, 1, 7), 2: (1, 2, 5, 0, 8), 3: (2, 2, 6, 0, 9), 4: (3, 4, 7, 1, 10), 5: (4, 4, 7, 0, 11)}
        whole = [(5, (7, 8)), (6, (9,)), (7, (10, 11))]
        self.assertEqual(self.read_with(rows, {}), whole)
        for block, content, many in [
                (1, (8, 2, 5, 1, 7), 0), (1, (0, 1, 5, 1, 7), 0), (1, (0, 2, 4, 1, 7), 0), (1, (0, 2, 6, 1, 7), 0),
                (1, (0, 2, 4, 0, 7), 0), (1, (0, 2, 6, 0, 7), 0), (1, (0, 1, 5, 0, 7), 0), (1, (0, 5, 5, 0, 7), 0),
                (1, (0, 4, 5, 0, 7), 1), (1, (0, 2, 5, 2, 7), 0), (1, (0, 2, 5, 0, 7), 1), (1, (0, 3, 5, 1, 7), 0),
                (1, (), 0),
                (2, (1, 3, 5, 0, 8), 0), (2, (1, 2, 6, 0, 8), 0), (2, (9, 2, 5, 0, 8), 0), (2, (), 0),
                (3, (2, 1, 6, 0, 9), 1), (3, (2, 3, 6, 0, 9), 3), (3, (2, 4, 6, 0, 9), 3), (3, (2, 5, 6, 0, 9), 1),
                (3, (2, 2, 5, 0, 9), 1), (3, (2, 2, 7, 0, 9), 1), (3, (2, 2, 6, 1, 9), 1), (3, (3, 2, 6, 0, 9), 1),
                (4, (3, 5, 7, 1, 10), 2), (4, (3, 3, 7, 1, 10), 2), (4, (3, 4, 8, 1, 10), 2), (4, (), 2),
                (5, (4, 3, 7, 0, 11), 2), (5, (4, 5, 7, 0, 11), 2), (5, (4, 4, 7, 1, 11), 2), (5, (4, 4, 8, 0, 11), 2)]:
            self.assertEqual(len(self.read_with(rows, {block: content})), many, (block, content))
        self.assertEqual(self.read_with(rows, {6: (5, 4, 8, 0, 12)}), [*whole, (8, (12,))])
        self.assertEqual(self.read_with(rows, {6: (5, 4, 8, 1, 12)}), whole)
        self.assertEqual(self.read_with(rows, {6: (5, 5, 8, 0, 12)}), whole)

    def read_with(self, rows, others):
        disk = formatted(24, 8)
        disk.write(0, ("master", 4, 8, 0, 5, 2))
        for block, content in {**rows, **others}.items():
            disk.write(block, content)
        told = prefix_in(written(disk))[0]
        log = Log(disk)
        self.assertEqual(log.records(), told)
        self.assertEqual((log.last(), log.forced()), (4 + len(log.records()), 4 + len(log.records())))
        self.assertEqual(disk.lying(0), ("master", 5, 8, 0, 5, 2))
        return log.records()

    def test_at_most_ring_blocks_count(self):
        disk = formatted(24, 4)
        disk.write(0, ("master", 1, 4, 6, 0, 0))
        for block, content in {3: (6, 1, 0, 0, 1), 4: (7, 1, 1, 0, 2), 1: (8, 1, 2, 0, 3), 2: (9, 1, 3, 0, 4)}.items():
            disk.write(block, content)
        log = Log(disk)
        self.assertEqual((log.records(), log.room()), ([(0, (1,)), (1, (2,)), (2, (3,)), (3, (4,))], 0))
        self.assertRaises(LogFull, log.append, (5,))

    def test_the_next_record_goes_behind_the_last_whole_one(self):
        account = Account(self, 24, 8)
        account.append(account.fresh(36))
        account.append(account.fresh(80))
        for block in (1, 2, 4):
            account.disk.reach(block)
        account.disk.cut()
        account.opens()
        self.assertEqual((account.last(), account.behind(), account.log.room()), (0, 1, 7))
        account.append(account.fresh(40))
        account.force(1)
        self.assertEqual(account.disk.lying(2)[:4], (1, 2, 1, 1))
        account.disk.cut()
        account.opens()
        self.assertEqual(account.last(), 1)

    def test_the_master(self):
        account = Account(self, 24, 8)
        self.assertEqual(account.disk.lying(0), ("master", 1, 8, 0, 0, 0))
        account.append(account.fresh(40))
        account.append(account.fresh(1))
        account.disk.calm()
        account.disk.cut()
        account.opens()
        self.assertEqual(account.disk.lying(0), ("master", 2, 8, 0, 0, 0))
        account.append(account.fresh(1))
        account.begin_at(1)
        self.assertEqual(account.disk.lying(0), ("master", 2, 8, 2, 1, 1))
        account.begin_at(2)
        self.assertEqual(account.disk.lying(0), ("master", 2, 8, 3, 2, 2))
        account.begin_at(3)
        self.assertEqual(account.disk.lying(0), ("master", 2, 8, 4, 3, 2))
        account.opens()
        account.opens()
        self.assertEqual(account.disk.lying(0), ("master", 4, 8, 4, 3, 2))
        account.begin_at(3)
        self.assertEqual(account.disk.lying(0), ("master", 4, 8, 4, 3, 4))

    def test_begin_at_forces_no_more_than_it_must(self):
        account = Account(self, 24, 8)
        for _ in range(4):
            account.append(account.fresh(1))
        account.begin_at(2)
        self.assertEqual((account.disk.waiting(), account.log.forced()), ({3: 1, 4: 1}, 1))
        account.begin_at(2)
        self.assertEqual(account.disk.waiting(), {3: 1, 4: 1})
        account.compare()

    def test_stopped(self):
        for many in range(4):
            account = Account(self, 24, 8)
            for _ in range(3):
                account.append(account.fresh(1))
            account.disk.power(many)
            self.assertRaises(Stopped, account.log.begin_at, 3)
            self.assertEqual(account.disk.reached(), 3 + many)
            account.disk.cut()
            account.opens()
            self.assertEqual((account.start, account.last()), (0, many - 1))
        account.append(account.fresh(100))
        account.disk.power(1)
        self.assertRaises(Stopped, account.log.force, 3)
        self.assertEqual(account.log.forced(), 2)
        account.disk.cut()
        account.opens()
        self.assertEqual(account.last(), 2)

    def test_wrong_things_change_nothing(self):
        account = Account(self, 24, 8)
        for size in (40, 1, 37):
            account.append(account.fresh(size))
        account.begin_at(1)
        account.disk.power(0)
        for thing in [*things(), 0, 3, 4]:
            if not plain_row(thing, 1, 6000):
                self.assertRaises(NoRecord, account.log.append, thing)
            if not plain_integer(thing, 1, 2):
                self.assertRaises(NoNumber, account.log.force, thing)
            if not plain_integer(thing, 1, 3):
                self.assertRaises(NoNumber, account.log.begin_at, thing)
        self.assertRaises(LogFull, account.log.append, account.fresh(36 * 5 + 1))
        account.compare()

    def test_what_is_returned_is_new(self):
        account = Account(self, 24, 8)
        account.append((1,))
        account.log.records().clear()
        account.compare()


if __name__ == "__main__":
    unittest.main()
