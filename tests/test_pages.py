import random
import unittest

from wholecommits.disk import Disk
from wholecommits.errors import BadDisk, NoItems, NoNote, NoNumber, NoPage, NoRoom, Over, Stopped, TooLarge
from wholecommits.log import formatted
from wholecommits.pages import Batch, Pages
from tests.things import plain_integer, plain_row, things


def all_methods(batch):
    """Each method of a batch, called with what it would take if the batch were open."""
    return [lambda: batch.get(0), lambda: batch.put(1, ("x",)), batch.take_page, lambda: batch.give_page(1),
            batch.root, batch.last, lambda: batch.set_root(0), lambda: batch.set_last(1), batch.changed,
            lambda: batch.done(()), batch.dropped]


def state_of(pages):
    return [pages.held(page) for page in range(pages.high())]


class Batches(unittest.TestCase):

    def test_pages_are_taken_and_given(self):
        pages = Pages(formatted(16, 4))
        batch = pages.batch()
        self.assertIsInstance(batch, Batch)
        self.assertEqual([batch.take_page() for _ in range(4)], [1, 2, 3, 4])
        self.assertEqual((batch.get(3), batch.get(0)), (("new",), ("meta", -1, 5, 0, 0)))
        self.assertIsNone(batch.give_page(2))
        self.assertIsNone(batch.give_page(4))
        self.assertEqual((batch.get(2), batch.get(4), batch.get(0)),
                         (("free", -1), ("free", 2), ("meta", 4, 5, 0, 0)))
        self.assertRaises(NoPage, batch.give_page, 2)
        self.assertRaises(NoPage, batch.put, 2, ("x",))
        self.assertEqual([batch.take_page() for _ in range(3)], [4, 2, 5])
        self.assertEqual(batch.get(0), ("meta", -1, 6, 0, 0))

    def test_no_room(self):
        pages = Pages(formatted(16, 4))
        batch = pages.batch()
        self.assertEqual(pages.many(), 11)
        self.assertEqual([batch.take_page() for _ in range(10)], list(range(1, 11)))
        before = (batch.changed(), batch.get(0))
        self.assertRaises(NoRoom, batch.take_page)
        self.assertEqual((batch.changed(), batch.get(0)), before)
        batch.give_page(7)
        self.assertEqual(batch.take_page(), 7)
        self.assertRaises(NoRoom, batch.take_page)

    def test_changed(self):
        pages = Pages(formatted(24, 8))
        batch = pages.batch()
        self.assertEqual(batch.changed(), ())
        batch.take_page()
        self.assertEqual(batch.changed(), (0, 1))
        batch.done(())
        batch = pages.batch()
        batch.put(1, ("new",))
        self.assertEqual(batch.changed(), (1,))
        batch.set_root(1)
        self.assertEqual((batch.changed(), batch.root()), ((0, 1), 1))
        batch.set_root(0)
        self.assertEqual(batch.changed(), (1,))
        batch.set_last(10 ** 30)
        self.assertEqual((batch.changed(), batch.last()), ((0, 1), 10 ** 30))
        batch.dropped()
        batch = pages.batch()
        self.assertEqual((batch.root(), batch.last(), batch.get(1)), (0, 0, ("new",)))
        batch.give_page(1)
        batch.take_page()
        self.assertEqual(batch.changed(), (1,))

    def test_the_record(self):
        disk = formatted(24, 8)
        pages = Pages(disk)
        batch = pages.batch()
        batch.take_page()
        batch.put(1, ("leaf", 5, "a"))
        self.assertEqual(batch.done(("commit", 7)), 0)
        record = (2, "commit", 7, 0, 5, "meta", -1, 2, 0, 0, 1, 3, "leaf", 5, "a")
        self.assertEqual(disk.read(1), (0, 1, 0, 0) + record)
        self.assertEqual((disk.lying(1), pages.record(), pages.forced()), ((), 0, -1))
        self.assertEqual(pages.batch().done(()), 1)
        self.assertEqual(disk.read(2), (1, 1, 1, 0, 0))
        self.assertEqual(pages.notes(), [(0, ("commit", 7)), (1, ())])

    def test_over(self):
        pages = Pages(formatted(24, 8))
        for how in ("done", "dropped", "another"):
            batch = pages.batch()
            batch.take_page()
            if how == "done":
                batch.done(())
            elif how == "dropped":
                self.assertIsNone(batch.dropped())
            else:
                pages.batch()
            for method in all_methods(batch):
                self.assertRaises(Over, method)
            self.assertRaises(Over, batch.get, None)
            self.assertRaises(Over, batch.done, None)
        self.assertEqual((pages.high(), pages.record()), (2, 0))

    def test_wrong_things(self):
        pages = Pages(formatted(24, 8))
        batch = pages.batch()
        batch.take_page()
        before = (batch.get(0), batch.get(1), batch.changed())
        for page in (2, 3, -1, 14, 15):
            self.assertRaises(NoPage, batch.get, page)
            self.assertRaises(NoPage, batch.put, page, ("x",))
            self.assertRaises(NoPage, batch.give_page, page)
            self.assertRaises(NoPage, batch.set_root, page)
            self.assertRaises(NoPage, pages.held, page)
        for thing in things():
            if not plain_integer(thing, 0, 1):
                self.assertRaises(NoPage, batch.get, thing)
                self.assertRaises(NoPage, batch.set_root, thing)
            if not plain_integer(thing, 1, 1):
                self.assertRaises(NoPage, batch.put, thing, None)
                self.assertRaises(NoPage, batch.give_page, thing)
            if not plain_row(thing, 1, 39) or type(thing[0]) is not str or thing[0] in ("free", "meta"):
                self.assertRaises(NoItems, batch.put, 1, thing)
            if not plain_integer(thing, 0, 10 ** 30):
                self.assertRaises(NoNumber, batch.set_last, thing)
            if not plain_row(thing, 0, 40):
                self.assertRaises(NoNote, batch.done, thing)
        self.assertEqual((batch.get(0), batch.get(1), batch.changed()), before)
        self.assertEqual(pages.record(), -1)

    def test_too_large(self):
        pages = Pages(formatted(40, 4))
        batch = pages.batch()
        for _ in range(3):
            batch.put(batch.take_page(), ("x",) * 39)
        self.assertRaises(NoNote, batch.done, None)
        self.assertRaises(TooLarge, batch.done, ("x",) * 15)
        self.assertEqual((batch.changed(), pages.high(), pages.record()), ((0, 1, 2, 3), 1, -1))
        self.assertEqual(batch.done(("x",) * 13), 0)
        self.assertEqual((pages.room(), pages.high()), (0, 4))
        pages = Pages(formatted(600, 200))
        batch = pages.batch()
        for _ in range(146):
            batch.put(batch.take_page(), ("x",) * 39)
        self.assertRaises(TooLarge, batch.done, ("x",) * 7)
        self.assertEqual(batch.done(("x",) * 6), 0)

    def test_a_full_log_is_emptied_by_a_checkpoint(self):
        disk = formatted(24, 4)
        pages = Pages(disk)
        for number in range(30):
            batch = pages.batch()
            batch.set_last(number + 1)
            self.assertEqual(batch.done((number,)), number)
        self.assertEqual(pages.notes(), [(28, (28,)), (29, (29,))])
        self.assertEqual(disk.lying(5), (27, "meta", -1, 1, 0, 28))


class PagesThemselves(unittest.TestCase):

    def test_new_ones(self):
        pages = Pages(formatted(24, 8))
        self.assertEqual((pages.dirty(), pages.record(), pages.forced(), pages.room(), pages.in_use(), pages.high(),
                          pages.many(), pages.notes(), pages.held(0)),
                         ((), -1, -1, 8, 1, 1, 15, [], ("meta", -1, 1, 0, 0)))

    def test_write_out(self):
        disk = formatted(24, 8)
        pages = Pages(disk)
        batch = pages.batch()
        batch.take_page()
        batch.done(())
        self.assertEqual(pages.batch().done(()), 1)
        self.assertEqual(pages.dirty(), (0, 1))
        self.assertIs(pages.write_out(1), True)
        self.assertEqual((pages.forced(), pages.dirty(), disk.waiting()), (0, (0,), {2: 1, 10: 1}))
        self.assertEqual((disk.read(10), disk.lying(10)), ((0, "new"), ()))
        self.assertIs(pages.write_out(1), False)
        disk.power(0)
        pages.write_out(0)
        self.assertRaises(Stopped, pages.force, 1)

    def test_write_out_is_stopped(self):
        disk = formatted(24, 8)
        pages = Pages(disk)
        batch = pages.batch()
        batch.take_page()
        batch.done(())
        disk.power(0)
        self.assertRaises(Stopped, pages.write_out, 1)
        self.assertRaises(Stopped, pages.checkpoint)

    def test_checkpoint(self):
        disk = formatted(24, 8)
        pages = Pages(disk)
        self.assertIsNone(pages.checkpoint())
        batch = pages.batch()
        batch.give_page(batch.take_page())
        batch.done(("x",))
        self.assertIsNone(pages.checkpoint())
        self.assertEqual((pages.dirty(), pages.notes(), pages.record(), pages.forced(), pages.room()),
                         ((), [], 0, 0, 8))
        self.assertEqual((disk.waiting(), disk.lying(0)), ({}, ("master", 1, 8, 1, 1, 1)))
        self.assertEqual((disk.lying(9), disk.lying(10)), ((0, "meta", 1, 2, 0, 0), (0, "free", -1)))
        self.assertEqual((pages.in_use(), pages.high()), (1, 2))

    def test_wrong_things(self):
        pages = Pages(formatted(24, 8))
        for thing in things():
            if not plain_integer(thing, 0, 0):
                self.assertRaises(NoPage, pages.held, thing)
                self.assertRaises(NoPage, pages.write_out, thing)
            self.assertRaises(NoNumber, pages.force, thing)
            if not isinstance(thing, Disk) or thing.read(0) == ():
                self.assertRaises(BadDisk, Pages, thing)

    def test_wrong_meta_pages_change_nothing(self):
        for meta in [(), (0,), ("meta", -1, 1, 0, 0), (0, "meta", -1, 1, 0), (0, "meta", -1, 1, 0, 0, 0),
                     (0, "leaf", -1, 1, 0, 0), (0, "meta", -1, 0, 0, 0), (0, "meta", -1, 16, 0, 0),
                     (0, "meta", -1, "a", 0, 0), (0, "meta", "a", 1, 0, 0), (0, "meta", -1, 1, "", 0),
                     (0, "meta", -1, 1, 0, "a"), (0, "meta", -1, 3, 3, 0), (0, "meta", -1, 3, -1, 0),
                     (0, "meta", 3, 3, 0, 0), (0, "meta", 0, 3, 0, 0), (0, "meta", -2, 3, 0, 0),
                     (0, "meta", -1, 3, 0, -1)]:
            disk = formatted(24, 8)
            disk.write(9, meta)
            self.assertRaises(BadDisk, Pages, disk)
            self.assertEqual((disk.waiting(), disk.reached(), disk.read(0)), ({9: 1}, 2, ("master", 0, 8, 0, 0, 0)))
        disk = formatted(24, 8)
        disk.write(9, (0, "meta", -1, 15, 0, 0))
        self.assertEqual(Pages(disk).high(), 15)

    def test_opening_finds_what_is_dirty(self):
        disk = formatted(24, 8)
        pages = Pages(disk)
        batch = pages.batch()
        batch.take_page()
        batch.take_page()
        batch.done(())
        batch = pages.batch()
        batch.put(2, ("x",))
        batch.done(())
        pages.write_out(1)
        pages = Pages(disk)
        self.assertEqual((pages.dirty(), pages.held(2), pages.forced()), ((0, 2), ("x",), 1))

    def test_the_fact_of_pages(self):
        for seed in range(120):
            draw = random.Random(seed)
            disk = formatted(20, draw.choice([4, 5, 8]))
            pages = Pages(disk)
            told = {-1: state_of(pages)}
            for _ in range(60):
                stopped = False
                if draw.random() < 0.15:
                    disk.power(draw.randrange(6))
                try:
                    self.one_deed(draw, disk, pages, told)
                    disk.power(None)
                except Stopped:
                    stopped = True
                if stopped or draw.random() < 0.15:
                    pages = self.cut_and_opened(draw, disk, pages, told)

    def one_deed(self, draw, disk, pages, told):
        deed = draw.choice(["batch", "batch", "force", "out", "reach", "reach", "check"])
        if deed == "batch":
            batch = pages.batch()
            for _ in range(draw.randrange(4)):
                self.one_change(draw, batch)
            try:
                number = batch.done(("n", draw.randrange(9)))
            except TooLarge:
                return
            told[number] = state_of(pages)
        elif deed == "force" and pages.notes():
            pages.force(pages.record())
        elif deed == "out" and pages.dirty():
            pages.write_out(draw.choice(pages.dirty()))
        elif deed == "reach" and disk.waiting():
            disk.reach(draw.choice(sorted(disk.waiting())))
        elif deed == "check" and draw.random() < 0.3:
            pages.checkpoint()

    def one_change(self, draw, batch):
        high = batch.get(0)[2]
        usable = [page for page in range(1, high) if batch.get(page)[0] != "free"]
        deed = draw.choice(["take", "put", "put", "give", "last"])
        if deed == "take":
            try:
                batch.take_page()
            except NoRoom:
                pass
        elif deed == "put" and usable:
            batch.put(draw.choice(usable), ("x", draw.randrange(10 ** 6)) + (1,) * draw.randrange(30))
        elif deed == "give" and usable:
            batch.give_page(draw.choice(usable))
        elif deed == "last":
            batch.set_last(draw.randrange(99))

    def cut_and_opened(self, draw, disk, pages, told):
        forced = pages.forced()
        disk.power(None)
        for _ in range(draw.randrange(8)):
            if disk.waiting():
                disk.reach(draw.choice(sorted(disk.waiting())))
        if draw.random() < 0.5:
            disk.cut()
            disk.power(draw.randrange(2))
            try:
                Pages(disk)
            except Stopped:
                pass
        disk.cut()
        opened = Pages(disk)
        again = Pages(disk.copy())
        self.assertGreaterEqual(opened.record(), forced)
        self.assertEqual(state_of(opened), told[opened.record()])
        self.assertEqual((state_of(again), again.notes(), again.dirty()),
                         (state_of(opened), opened.notes(), opened.dirty()))
        for number in [number for number in told if number > opened.record()]:
            del told[number]
        return opened


if __name__ == "__main__":
    unittest.main()
