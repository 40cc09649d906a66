"""Pages and batches beside plain rows of items, by 3.1 to 3.3, written apart from the package."""

from wholecommits.errors import NoPage, NoRoom, TooLarge
from wholecommits.log import formatted
from wholecommits.pages import Pages
from tests.log_rules import pages_in, prefix_in, written


class Plain:
    """What a batch makes of the items of all pages, as a plain list; those from high on are ()."""

    def __init__(self, items):
        self.items = list(items)
        self.before = list(items)
        self.touched = set()

    def meta(self, at):
        return self.items[0][at]

    def set_meta(self, at, item):
        self.items[0] = (*self.items[0][:at], item, *self.items[0][at + 1:])

    def usable(self):
        return [page for page in range(1, self.meta(2)) if self.items[page][0] != "free"]

    def next_page(self):
        """The page that is taken next, None if there is none."""
        if self.meta(1) != -1:
            return self.meta(1)
        return self.meta(2) if self.meta(2) < len(self.items) else None

    def take(self):
        page = self.next_page()
        if self.meta(1) != -1:
            self.set_meta(1, self.items[page][1])
        else:
            self.set_meta(2, page + 1)
        self.put(page, ("new",))

    def give(self, page):
        self.put(page, ("free", self.meta(1)))
        self.set_meta(1, page)

    def put(self, page, items):
        self.items[page] = items
        self.touched.add(page)

    def changed(self):
        return tuple(sorted(self.touched | ({0} if self.items[0] != self.before[0] else set())))

    def record(self, note):
        row = [len(note), *note]
        for page in self.changed():
            row += [page, len(self.items[page]), *self.items[page]]
        return tuple(row)


class Account:
    """Pages beside the plain items behind each record that was made."""

    def __init__(self, case, blocks, ring):
        self.case = case
        self.ring = ring
        self.disk = formatted(blocks, ring)
        self.behind = {-1: [("meta", -1, 1, 0, 0)] + [()] * (blocks - ring - 2)}
        self.written_at = {0: -1}
        self.unwritten = set()
        self.notes = []
        self.last = -1
        self.pages = Pages(self.disk)
        self.compare()

    def items(self):
        return self.behind[self.last]

    def compare(self):
        case, pages, items = self.case, self.pages, self.items()
        high = items[0][2]
        case.assertEqual([pages.held(page) for page in range(high)], items[:high])
        for page in (-1, high, high + 1):
            case.assertRaises(NoPage, pages.held, page)
        case.assertEqual(pages.in_use(), len([one for one in items[:high] if one[0] != "free"]))
        case.assertEqual((pages.high(), pages.many(), pages.record()), (high, len(items), self.last))
        case.assertEqual((pages.dirty(), pages.notes()), (tuple(sorted(self.unwritten)), self.notes))
        blocks = written(self.disk)
        case.assertEqual(pages.room(), self.ring - prefix_in(blocks)[1])
        case.assertEqual([number for number, _ in prefix_in(blocks)[0]], [number for number, _ in self.notes])
        for page, number in self.written_at.items():
            if page not in self.unwritten:
                case.assertEqual(blocks[self.ring + 1 + page], (number, *items[page]))
        case.assertEqual(pages_in(blocks), (items, self.written_at, tuple(sorted(self.unwritten))))

    def batch(self):
        return Pair(self, self.pages.batch(), Plain(self.items()))

    def done(self, pair, note):
        """Let a batch be done, or be too large; whether it was done."""
        record = pair.plain.record(note)
        blocks = (len(record) + 35) // 36
        if len(record) > 6000 or blocks > self.ring:
            self.case.assertRaises(TooLarge, pair.batch.done, note)
            pair.compare()
            return False
        forced = self.pages.forced()
        full = blocks > self.pages.room()
        number = pair.batch.done(note)
        if full:
            self.emptied(number)
        else:
            self.case.assertEqual(self.pages.forced(), forced)
        self.case.assertEqual(number, self.last + 1)
        self.case.assertEqual(prefix_in(written(self.disk))[0][-1], (number, record))
        self.last = number
        self.behind[number] = pair.plain.items
        self.notes.append((number, note))
        for page in pair.plain.changed():
            self.written_at[page] = number
            self.unwritten.add(page)
        return True

    def emptied(self, number):
        """What a checkpoint ahead of a record leaves."""
        for page in self.written_at:
            self.case.assertEqual(self.disk.lying(self.ring + 1 + page),
                                  (self.written_at[page], *self.items()[page]))
        self.unwritten = set()
        self.notes = []
        self.case.assertEqual(self.pages.forced(), number - 1)
        self.case.assertEqual(self.disk.lying(0)[4], number)

    def write_out(self, page):
        dirty = page in self.unwritten
        block = self.ring + 1 + page
        waiting = self.disk.waiting().get(block, 0)
        self.case.assertIs(self.pages.write_out(page), dirty)
        self.case.assertEqual(self.disk.waiting().get(block, 0), waiting + (1 if dirty else 0))
        if dirty:
            self.case.assertGreaterEqual(self.pages.forced(), self.written_at[page])
            self.case.assertEqual(self.disk.read(block), (self.written_at[page], *self.items()[page]))
        self.unwritten.discard(page)

    def checkpoint(self):
        self.case.assertIsNone(self.pages.checkpoint())
        self.emptied(self.last + 1)
        self.case.assertEqual(self.disk.waiting(), {})

    def reach_some(self, draw, many):
        for _ in range(many):
            if self.disk.waiting():
                self.disk.reach(draw.choice(sorted(self.disk.waiting())))

    def opened(self, forced):
        """Open the pages of a disk that was cut, all up to a record having been forced."""
        items, self.written_at, dirty = pages_in(written(self.disk))
        self.pages = Pages(self.disk)
        self.last = self.pages.record()
        self.case.assertGreaterEqual(self.last, forced)
        self.case.assertEqual(self.pages.forced(), self.last)
        self.behind = {number: told for number, told in self.behind.items() if number <= self.last}
        self.case.assertEqual(self.items(), items)
        self.notes = self.pages.notes()
        self.unwritten = set(dirty)
        self.compare()


class Pair:
    """A batch beside its plain one."""

    def __init__(self, account, batch, plain):
        self.account = account
        self.case = account.case
        self.batch = batch
        self.plain = plain

    def compare(self):
        plain, batch = self.plain, self.batch
        high = plain.meta(2)
        self.case.assertEqual([batch.get(page) for page in range(high)], plain.items[:high])
        self.case.assertEqual((batch.root(), batch.last(), batch.changed()),
                              (plain.meta(3), plain.meta(4), plain.changed()))
        self.case.assertRaises(NoPage, batch.get, high)
        self.account.case.assertEqual(self.account.pages.record(), self.account.last)

    def take(self):
        page = self.plain.next_page()
        if page is None:
            self.case.assertRaises(NoRoom, self.batch.take_page)
            return
        self.case.assertEqual(self.batch.take_page(), page)
        self.plain.take()

    def give(self, page):
        self.case.assertIsNone(self.batch.give_page(page))
        self.plain.give(page)

    def put(self, page, items):
        self.case.assertIsNone(self.batch.put(page, items))
        self.plain.put(page, items)

    def refused_pages(self):
        """Free pages, the meta page and those from high on are not put nor given."""
        high = self.plain.meta(2)
        for page in range(-1, len(self.plain.items) + 1):
            if page not in self.plain.usable():
                self.case.assertRaises(NoPage, self.batch.put, page, ("x",))
                self.case.assertRaises(NoPage, self.batch.give_page, page)
            if not 0 <= page < high:
                self.case.assertRaises(NoPage, self.batch.set_root, page)

    def set_root(self, page):
        self.case.assertIsNone(self.batch.set_root(page))
        self.plain.set_meta(3, page)

    def set_last(self, number):
        self.case.assertIsNone(self.batch.set_last(number))
        self.plain.set_meta(4, number)

    def one_change(self, draw):
        usable = self.plain.usable()
        deed = draw.choice(["take", "take", "put", "put", "put", "give", "root", "last"])
        if deed == "take":
            self.take()
        elif deed == "put" and usable:
            items = (draw.choice(["x", "", "leaf", "inner", "z" * 12]),) + (draw.randrange(-9, 9),) * draw.randrange(39)
            self.put(draw.choice(usable), items)
        elif deed == "give" and usable:
            self.give(draw.choice(usable))
        elif deed == "root":
            self.set_root(draw.randrange(self.plain.meta(2)))
        elif deed == "last":
            self.set_last(draw.choice([0, 7, 10 ** 30]))
