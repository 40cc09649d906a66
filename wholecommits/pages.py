"""Pages that are, after any cut, as behind the last record of the log's prefix, and the batches that change them."""

from wholecommits.errors import BadDisk, NoItems, NoNote, NoNumber, NoPage, NoRoom, Over, TooLarge
from wholecommits.kinds import GREATEST_ITEM, LONGEST_CONTENT, is_content, is_row, is_within
from wholecommits.log import Log
from wholecommits.pieces import MOST_ITEMS, counted, master_of, piece_count, whole_records

MOST_PAGE_ITEMS = 39


def is_meta(many, items):
    """Whether a page's items are as those of the meta page, so many pages being there."""
    if len(items) != 5 or items[0] != "meta" or not is_within(1, many, items[2]):
        return False
    _, head, high, root, last = items
    if head != -1 and not is_within(1, high - 1, head):
        return False
    return is_within(0, high - 1, root) and is_within(0, GREATEST_ITEM, last)


def is_page_items(thing):
    """Whether it can be put into a page."""
    if not is_row(1, MOST_PAGE_ITEMS, thing):
        return False
    return isinstance(thing[0], str) and thing[0] not in ("free", "meta")


def batch_record(note, changes):
    """The record of a batch, changes being a dict from pages to items."""
    record = [len(note), *note]
    for page in sorted(changes):
        record.extend([page, len(changes[page]), *changes[page]])
    return tuple(record)


def is_batch_record(many, record):
    """Whether a record is one of a batch, so many pages being there."""
    if not is_within(0, LONGEST_CONTENT, record[0]):
        return False
    at = 1 + record[0]
    while at + 1 < len(record) and is_within(0, many - 1, record[at]) and is_within(1, MOST_PAGE_ITEMS, record[at + 1]):
        at += 2 + record[at + 1]
    return at == len(record)


def note_of(record):
    """The note of a batch's record."""
    return record[1:1 + record[0]]


def changes_of(record):
    """The dict from pages to items that a batch's record tells."""
    changes = {}
    at = 1 + record[0]
    while at < len(record):
        behind = at + 2 + record[at + 1]
        changes[record[at]] = record[at + 2:behind]
        at = behind
    return changes


class Pages:
    """The pages of a disk: of each the items, the record that told them, and whether it is dirty."""

    def __init__(self, disk):
        master = master_of(disk)
        rows = whole_records(counted(disk, master))
        first_block = master[2] + 1
        lying = [disk.read(block) for block in range(first_block, disk.blocks())]
        if not all([is_batch_record(len(lying), row[2]) for row in rows]):
            raise BadDisk()
        self.bodies = [content[1:] for content in lying]
        self.numbers = [content[0] if content else -1 for content in lying]
        self.unwritten = {}
        for at, row in enumerate(rows):
            self.tell(master[4] + at, changes_of(row[2]))
        for page in self.dirty():
            if lying[page][:1] == (self.numbers[page],):
                del self.unwritten[page]
        if not is_meta(len(lying), self.bodies[0]):
            raise BadDisk()
        # Opening the log changes the disk, so it comes when nothing is left to be refused.
        self.log = Log(disk)
        self.device = disk
        self.first_block = first_block
        self.newest_batch = None

    def batch(self):
        """A new batch; an elder one that is under way is dropped."""
        if self.newest_batch is not None:
            self.newest_batch.close()
        self.newest_batch = Batch(self)
        return self.newest_batch

    def held(self, page):
        """The items of a page by all batches that are done."""
        self.demand_page(page)
        return self.bodies[page]

    def dirty(self):
        """The lot of the dirty pages."""
        return tuple(sorted(self.unwritten))

    def write_out(self, page):
        """Write a dirty page to its block, where it waits; returns whether it was dirty."""
        self.demand_page(page)
        if page not in self.unwritten:
            return False
        # A page that lies there ahead of its record would outlive a cut that the record does not.
        self.log.force(self.numbers[page])
        self.device.write(self.first_block + page, (self.numbers[page], *self.bodies[page]))
        del self.unwritten[page]
        return True

    def force(self, number):
        """Force the log as far as a record."""
        self.log.force(number)

    def record(self):
        """The number of the last record."""
        return self.log.last()

    def forced(self):
        """The number of the last record that is forced."""
        return self.log.forced()

    def room(self):
        """How many further blocks of the log can be written."""
        return self.log.room()

    def notes(self):
        """The list of the pairs (number, note) of the log's records."""
        return [(number, note_of(record)) for number, record in self.log.records()]

    def checkpoint(self):
        """Bring all pages to the disk and let the log begin behind its last record."""
        if self.forced() < self.record():
            self.force(self.record())
        for page in self.dirty():
            self.write_out(page)
        self.device.force(tuple(range(self.first_block, self.device.blocks())))
        self.log.begin_at(self.record() + 1)

    def in_use(self):
        """How many pages below high are not free."""
        return len([page for page in range(self.high()) if self.bodies[page][:1] != ("free",)])

    def high(self):
        """The first page that was never taken."""
        return self.bodies[0][2]

    def many(self):
        """How many pages the disk has."""
        return len(self.bodies)

    def demand_page(self, page):
        """Raise NoPage for what is no page below high."""
        if not is_within(0, self.high() - 1, page):
            raise NoPage()

    def tell(self, number, changes):
        """Let the pages have what a record tells of them."""
        for page in changes:
            self.bodies[page] = changes[page]
            self.numbers[page] = number
            self.unwritten[page] = True

    def keep(self, note, changes):
        """Append the record of a batch, and let the pages have what it tells; returns its number."""
        record = batch_record(note, changes)
        many = piece_count(record)
        if len(record) > MOST_ITEMS or many > self.log.ring_size():
            raise TooLarge()
        if many > self.room():
            self.checkpoint()
        number = self.log.append(record)
        self.tell(number, changes)
        return number


class Batch:
    """Changes that come all or not at all; the meta page stands among the bodies from the beginning."""

    def __init__(self, pages):
        self.pages = pages
        self.bodies = {0: pages.held(0)}
        self.closed = False

    def get(self, page):
        """The items of a page as the batch has them."""
        self.demand_open()
        if not is_within(0, self.bodies[0][2] - 1, page):
            raise NoPage()
        if page in self.bodies:
            return self.bodies[page]
        return self.pages.held(page)

    def put(self, page, items):
        """Let a page have these items."""
        self.demand_usable(page)
        if not is_page_items(items):
            raise NoItems()
        self.bodies[page] = items

    def take_page(self):
        """The number of a page that was free and is free no more."""
        self.demand_open()
        _, head, high, _, _ = self.bodies[0]
        if head != -1:
            page = head
            self.set_meta(1, self.get(page)[1])
        elif high < self.pages.many():
            page = high
            self.set_meta(2, high + 1)
        else:
            raise NoRoom()
        self.bodies[page] = ("new",)
        return page

    def give_page(self, page):
        """Let a page be the first free one."""
        self.demand_usable(page)
        self.bodies[page] = ("free", self.bodies[0][1])
        self.set_meta(1, page)

    def root(self):
        """The root of the tree, 0 for none."""
        self.demand_open()
        return self.bodies[0][3]

    def last(self):
        """The number of the last commit."""
        self.demand_open()
        return self.bodies[0][4]

    def set_root(self, page):
        """Let a page be the root, none for 0."""
        self.get(page)
        self.set_meta(3, page)

    def set_last(self, number):
        """Let this be the number of the last commit."""
        self.demand_open()
        if not is_within(0, GREATEST_ITEM, number):
            raise NoNumber()
        self.set_meta(4, number)

    def changed(self):
        """The lot of the pages that the batch changes."""
        self.demand_open()
        lot = tuple(sorted(self.bodies))
        if self.bodies[0] == self.pages.held(0):
            return lot[1:]
        return lot

    def done(self, note):
        """Let all changes come, in one record with this note; returns the record's number."""
        self.demand_open()
        if not is_content(note):
            raise NoNote()
        number = self.pages.keep(note, {page: self.bodies[page] for page in self.changed()})
        self.closed = True
        return number

    def dropped(self):
        """Forget all changes."""
        self.demand_open()
        self.close()

    def close(self):
        """Let the batch be over, as it may be already."""
        self.closed = True

    def demand_open(self):
        """Raise Over for a batch that is over."""
        if self.closed:
            raise Over()

    def demand_usable(self, page):
        """Raise NoPage for what is no page, or one that is free, or the meta page."""
        if self.get(page)[:1] in (("free",), ("meta",)):
            raise NoPage()

    def set_meta(self, at, item):
        """Let the meta page have another item at this place."""
        meta = list(self.bodies[0])
        meta[at] = item
        self.bodies[0] = tuple(meta)
