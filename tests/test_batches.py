import random
import unittest

from wholecommits.errors import BadDisk, NoItems, NoNote, NoNumber, NoPage, NoRoom, Over, Stopped, TooLarge
from wholecommits.log import formatted
from wholecommits.pages import Pages
from tests.log_rules import lying, prefix_in, written
from tests.page_rules import Account
from tests.test_pages import all_methods
from tests.things import plain_integer, plain_row, things


def one_deed(draw, account):
    deed = draw.choice(["batch", "batch", "batch", "out", "out", "force", "reach", "check", "drop"])
    if deed in ("batch", "drop"):
        pair = account.batch()
        for _ in range(draw.randrange(7)):
            pair.one_change(draw)
            pair.compare()
        if deed == "batch":
            note = tuple(draw.choice(["a", 5, ""]) for _ in range(draw.choice([0, 1, 3, 40])))
            if not account.done(pair, note):
                pair.batch.dropped()
        elif draw.random() < 0.5:
            pair.batch.dropped()
    elif deed == "out":
        account.write_out(draw.randrange(account.pages.high()))
    elif deed == "force" and account.notes:
        number = draw.choice(account.notes)[0]
        account.pages.force(number)
        account.case.assertGreaterEqual(account.pages.forced(), number)
    elif deed == "reach":
        account.reach_some(draw, 3)
    elif deed == "check" and draw.random() < 0.4:
        account.checkpoint()


class Rows(unittest.TestCase):

    def test_drawn_rows(self):
        for seed in range(120):
            draw = random.Random(seed)
            account = Account(self, draw.choice([18, 24, 40]), draw.choice([4, 6, 10]))
            for _ in range(60):
                one_deed(draw, account)
                account.compare()
            self.assertGreater(account.last, 5)

    def test_pages_that_are_not_there(self):
        for seed in range(30):
            draw = random.Random(seed)
            account = Account(self, 20, 8)
            pair = account.batch()
            for _ in range(25):
                pair.one_change(draw)
                pair.refused_pages()
                pair.compare()

    def test_given_pages_are_taken_in_their_order(self):
        account = Account(self, 24, 8)
        pair = account.batch()
        for _ in range(14):
            pair.take()
        self.assertRaises(NoRoom, pair.batch.take_page)
        for page in (3, 9, 1, 14):
            pair.give(page)
        account.done(pair, ())
        account.compare()
        self.assertEqual(account.pages.held(0), ("meta", 14, 15, 0, 0))
        pair = account.batch()
        self.assertEqual([pair.batch.take_page() for _ in range(4)], [14, 1, 9, 3])
        self.assertRaises(NoRoom, pair.batch.take_page)
        pair.batch.dropped()
        account.compare()
        account.disk.calm()
        account.disk.cut()
        account.opened(0)
        pair = account.batch()
        self.assertEqual([pair.batch.take_page() for _ in range(4)], [14, 1, 9, 3])
        self.assertRaises(NoRoom, pair.batch.take_page)

    def test_too_large_by_blocks_leaves_it_open(self):
        account = Account(self, 40, 4)
        pair = account.batch()
        for _ in range(3):
            pair.take()
            pair.put(pair.plain.usable()[-1], ("x",) + (7,) * 38)
        self.assertEqual(len(pair.plain.record(())), 131)
        self.assertFalse(account.done(pair, (5,) * 14))
        self.assertFalse(account.done(pair, (5,) * 40))
        self.assertRaises(NoNote, pair.batch.done, (5,) * 41)
        pair.put(1, ("y",))
        self.assertTrue(account.done(pair, (5,) * 14))
        account.compare()
        pair = account.batch()
        for page in (1, 2, 3):
            pair.put(page, ("x",) + (8,) * 38)
        pair.set_last(1)
        self.assertTrue(account.done(pair, (5,) * 13))
        account.compare()
        self.assertEqual((account.pages.room(), len(account.notes)), (0, 1))

    def test_too_large_by_items_leaves_it_open(self):
        account = Account(self, 600, 200)
        pair = account.batch()
        for page in range(1, 147):
            pair.take()
            pair.put(page, ("x",) + (page,) * 38)
        self.assertEqual(len(pair.plain.record((5,) * 6)), 6000)
        self.assertFalse(account.done(pair, (5,) * 7))
        self.assertTrue(account.done(pair, (5,) * 6))
        account.compare()

    def test_a_checkpoint_makes_room(self):
        account = Account(self, 24, 5)
        for number in range(20):
            pair = account.batch()
            if number == 0:
                pair.take()
            pair.put(1, ("x",) + (number,) * 34)
            self.assertTrue(account.done(pair, (number,)))
            account.compare()
            if number % 3 == 0:
                account.write_out(1)
        self.assertGreater(account.disk.lying(0)[4], 10)

    def test_a_checkpoint_goes_step_by_step(self):
        reached = []
        for power in range(9):
            account = Account(self, 24, 8)
            pair = account.batch()
            pair.take()
            account.done(pair, ())
            account.done(account.batch(), ("last",))
            account.write_out(1)
            pair = account.batch()
            pair.put(1, ("x", 1))
            account.done(pair, ())
            account.done(account.batch(), ("empty",))
            account.disk.power(power)
            if power < 7:
                self.assertRaises(Stopped, account.pages.checkpoint)
            else:
                account.checkpoint()
            disk = account.disk
            reached.append((prefix_in(lying(disk))[0][-1:], [disk.lying(block) for block in (9, 10)],
                            disk.lying(0)[4]))
        last = [(3, (1, "empty"))]
        new, old = (0, "meta", -1, 2, 0, 0), (-1, "meta", -1, 1, 0, 0)
        self.assertEqual([len(row[0]) for row in reached], [1, 1, 1, 1, 1, 1, 1, 0, 0])
        self.assertEqual(reached[3:7], [(last, [old, ()], 0), (last, [new, ()], 0), (last, [new, (0, "new")], 0),
                                        (last, [new, (2, "x", 1)], 0)])
        self.assertEqual(reached[7:], [([], [new, (2, "x", 1)], 4)] * 2)

    def test_an_empty_batch_is_a_record(self):
        account = Account(self, 24, 5)
        self.assertTrue(account.done(account.batch(), ()))
        self.assertTrue(account.done(account.batch(), ("a",)))
        account.compare()
        self.assertEqual((account.disk.read(1), account.disk.read(2)), ((0, 1, 0, 0, 0), (1, 1, 1, 0, 1, "a")))


class Openings(unittest.TestCase):

    def test_dirty_as_an_opening_finds_it(self):
        for seed in range(120):
            draw = random.Random(seed)
            account = Account(self, 24, 6)
            for _ in range(40):
                one_deed(draw, account)
                if draw.random() < 0.1:
                    forced = account.pages.forced()
                    if draw.random() < 0.5:
                        account.reach_some(draw, 4)
                        account.disk.cut()
                    account.opened(forced)
            account.compare()

    def test_each_part_of_the_meta_page(self):
        for meta, right in [((0, "meta", -1, 1, 0, 0), True), ((7, "meta", 2, 3, 1, 10 ** 30), True),
                            ((0, "meta", 14, 15, 14, 5), True), ((0, "meta", 15, 15, 1, 5), False),
                            ((0, "meta", 1, 15, 15, 5), False), ((0, "meta", -1, 15, 20, 5), False),
                            ((0, "meta", -1, 16, 0, 0), False), ((0, "meta", -1, 0, 0, 0), False),
                            ((0, "meta", -2, 3, 0, 0), False), ((0, "meta", -1, 3, -1, 0), False),
                            ((0, "meta", -1, 3, 0, -1), False), ((0, "meta", "", 3, 0, 0), False),
                            ((0, "meta", -1, "a", 0, 0), False), ((0, "meta", -1, 3, "a", 0), False),
                            ((0, "meta", -1, 3, 0, "a"), False), ((0, "free", -1, 3, 0, 0), False),
                            ((0, "meta", -1, 3, 0), False), ((0, "meta", -1, 3, 0, 0, 0), False), ((), False),
                            ((0,), False), ((0, 1, -1, 3, 0, 0), False)]:
            disk = formatted(24, 8)
            disk.write(9, meta)
            before = (written(disk), disk.waiting(), disk.reached())
            if right:
                self.assertEqual(Pages(disk).held(0), meta[1:])
            else:
                self.assertRaises(BadDisk, Pages, disk)
                self.assertEqual((written(disk), disk.waiting(), disk.reached()), before)

    def test_a_meta_page_told_by_the_log(self):
        for meta, right in [(("meta", -1, 1, 0, 5), True), (("meta", -1, 0, 0, 5), False),
                            (("meta", -1, 1, 1, 5), False), (("x", 1), False)]:
            disk = formatted(24, 8)
            disk.write(1, (0, 0, 0, 0, 0, 0, len(meta), *meta))
            if right:
                pages = Pages(disk)
                self.assertEqual((pages.held(0), pages.dirty()), (meta, (0,)))
            else:
                self.assertRaises(BadDisk, Pages, disk)
                self.assertEqual(disk.waiting(), {1: 1})

    def test_wrong_masters(self):
        for master in [(), ("master", 0, 8, 0, 0), ("master", 0, 3, 0, 0, 0), ("master", 0, 17, 0, 0, 0),
                       ("slave", 0, 8, 0, 0, 0), ("master", 0, 8, 0, 0, -1), ("master", 0, 8, 0, 0, 0, 0)]:
            disk = formatted(24, 8)
            disk.write(0, master)
            self.assertRaises(BadDisk, Pages, disk)
            self.assertEqual((disk.waiting(), disk.reached()), ({0: 1}, 2))

    def test_stopped(self):
        disk = formatted(24, 8)
        pages = Pages(disk)
        batch = pages.batch()
        batch.set_last(5)
        batch.done(("x",))
        for many in range(2):
            disk.power(many)
            self.assertRaises(Stopped, Pages, disk)
            disk.power(None)
        self.assertEqual(Pages(disk).held(0), ("meta", -1, 1, 0, 5))


class Errors(unittest.TestCase):

    def begin(self):
        """A batch with a page 1 in use, a page 2 free, a page 3 in use, of pages with one record."""
        account = Account(self, 24, 8)
        account.done(account.batch(), ("a",))
        pair = account.batch()
        for _ in range(3):
            pair.take()
        pair.give(2)
        return account, pair

    def test_each_method_behind_each_end(self):
        ends = (lambda account, pair: account.done(pair, ()), lambda account, pair: pair.batch.dropped(),
                lambda account, pair: account.pages.batch())
        for end in ends:
            account, pair = self.begin()
            end(account, pair)
            account.compare()
            for call in all_methods(pair.batch):
                self.assertRaises(Over, call)
            for thing in things():
                for call in (lambda: pair.batch.get(thing), lambda: pair.batch.put(thing, thing),
                             lambda: pair.batch.give_page(thing), lambda: pair.batch.set_root(thing),
                             lambda: pair.batch.set_last(thing), lambda: pair.batch.done(thing)):
                    self.assertRaises(Over, call)
            account.compare()

    def test_each_argument(self):
        account, pair = self.begin()
        batch = pair.batch
        for thing in [*things(), 2, 4, -1]:
            if not plain_integer(thing, 0, 3):
                self.assertRaises(NoPage, batch.get, thing)
                self.assertRaises(NoPage, batch.set_root, thing)
            if not plain_integer(thing, 1, 3) or thing == 2:
                self.assertRaises(NoPage, batch.put, thing, None)
                self.assertRaises(NoPage, batch.put, thing, ("x",))
                self.assertRaises(NoPage, batch.give_page, thing)
            if not plain_row(thing, 1, 39) or type(thing[0]) is not str or thing[0] in ("free", "meta"):
                self.assertRaises(NoItems, batch.put, 1, thing)
            if not plain_integer(thing, 0, 10 ** 30):
                self.assertRaises(NoNumber, batch.set_last, thing)
            if not plain_row(thing, 0, 40):
                self.assertRaises(NoNote, batch.done, thing)
            if not plain_integer(thing, 0, 0):
                self.assertRaises(NoPage, account.pages.held, thing)
                self.assertRaises(NoPage, account.pages.write_out, thing)
                self.assertRaises(NoNumber, account.pages.force, thing)
        pair.compare()
        account.compare()

    def test_what_may_be_passed(self):
        account, pair = self.begin()
        for thing in things():
            if plain_row(thing, 1, 39) and type(thing[0]) is str and thing[0] not in ("free", "meta"):
                pair.put(3, thing)
            if plain_integer(thing, 0, 3):
                pair.set_root(thing)
            if plain_integer(thing, 0, 10 ** 30):
                pair.set_last(thing)
            pair.compare()
        for thing in things():
            if plain_row(thing, 0, 40):
                self.assertTrue(account.done(account.batch(), thing))
                account.compare()

    def test_no_note_comes_ahead_of_too_large(self):
        account = Account(self, 40, 4)
        pair = account.batch()
        for _ in range(30):
            pair.take()
            pair.put(pair.plain.usable()[-1], ("x",) * 39)
        account.disk.power(0)
        self.assertRaises(NoNote, pair.batch.done, None)
        self.assertRaises(TooLarge, pair.batch.done, ())
        pair.compare()
        account.compare()

    def test_a_batch_that_needs_a_checkpoint_is_stopped(self):
        account = Account(self, 24, 4)
        for number in range(4):
            account.done(account.batch(), (number,))
        pair = account.batch()
        account.disk.power(0)
        self.assertRaises(Stopped, pair.batch.done, ())
        account.disk.cut()
        account.opened(-1)
        self.assertEqual(account.notes, [])

    def test_an_elder_batch_that_is_over_stays_so(self):
        account = Account(self, 24, 8)
        first = account.batch()
        account.done(first, ())
        second = account.batch()
        self.assertRaises(Over, first.batch.dropped)
        second.take()
        account.done(second, ())
        account.compare()

    def test_what_is_returned_is_new(self):
        account = Account(self, 24, 8)
        account.done(account.batch(), ("a",))
        account.pages.notes().clear()
        account.compare()
        self.assertFalse(account.pages == Pages(formatted(24, 8)))


if __name__ == "__main__":
    unittest.main()
