"""A log of records in a ring of blocks, of which a cut leaves a prefix."""

from wholecommits.disk import Disk
from wholecommits.errors import BadDisk, LogFull, NoNumber, NoRecord
from wholecommits.kinds import is_row, is_within
from wholecommits.pieces import MOST_ITEMS, counted, is_ring, master_of, piece_count, pieces_of, whole_records


def formatted(blocks, ring):
    """A new disk with an empty log and no page but the meta page."""
    disk = Disk(blocks)
    if not is_ring(blocks, ring):
        raise BadDisk()
    disk.write(0, ("master", 0, ring, 0, 0, 0))
    disk.write(ring + 1, (-1, "meta", -1, 1, 0, 0))
    disk.calm()
    return disk


class Log:
    """The log of a disk; rows are its records, each behind its epoch and its first block's number."""

    def __init__(self, disk):
        master = master_of(disk)
        # What is read is what lies there when all has reached the disk, so it may be looked at ahead of that.
        self.rows = whole_records(counted(disk, master))
        self.device = disk
        self.epoch = master[1] + 1
        self.ring = master[2]
        self.start_block = master[3]
        self.start = master[4]
        self.forced_to = self.last()
        disk.calm()
        self.write_master(master[5])

    def append(self, thing):
        """Write a record behind the others, not forced; returns its number."""
        if not is_row(1, MOST_ITEMS, thing):
            raise NoRecord()
        if piece_count(thing) > self.room():
            raise LogFull()
        block = self.next_block()
        number = self.last() + 1
        for piece in pieces_of(block, self.epoch, number, thing):
            self.device.write(1 + piece[0] % self.ring, piece)
        self.rows.append((self.epoch, block, thing))
        return number

    def force(self, number):
        """Force all records up to this one."""
        if not is_within(self.start, self.last(), number):
            raise NoNumber()
        blocks = []
        for _, block, record in self.rows[self.forced_to + 1 - self.start:number + 1 - self.start]:
            blocks.extend([1 + (block + at) % self.ring for at in range(piece_count(record))])
        self.device.force(tuple(sorted(blocks)))
        self.forced_to = max(self.forced_to, number)

    def forced(self):
        """The number of the last record that is forced, with all ahead of it."""
        return self.forced_to

    def last(self):
        """The number of the last record."""
        return self.start + len(self.rows) - 1

    def records(self):
        """The list of the pairs (number, record)."""
        return [(self.start + at, row[2]) for at, row in enumerate(self.rows)]

    def room(self):
        """How many further blocks can be written."""
        return self.ring - (self.next_block() - self.start_block)

    def ring_size(self):
        """How many blocks the ring has."""
        return self.ring

    def begin_at(self, number):
        """Let the log start at this record and forget those ahead of it."""
        if not is_within(self.start, self.last() + 1, number):
            raise NoNumber()
        if number > self.start:
            self.force(number - 1)
        behind = self.rows[number - self.start:]
        first = self.epoch
        block = self.next_block()
        if behind:
            first = behind[0][0]
            block = behind[0][1]
        self.rows = behind
        self.start_block = block
        self.start = number
        self.write_master(first)

    def next_block(self):
        """The running number of the block behind the last record."""
        if not self.rows:
            return self.start_block
        _, block, record = self.rows[-1]
        return block + piece_count(record)

    def write_master(self, first):
        """Write the master and force it."""
        self.device.write(0, ("master", self.epoch, self.ring, self.start_block, self.start, first))
        self.device.force((0,))
