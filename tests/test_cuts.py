import random
import unittest

from wholecommits.errors import NoRoom, Stopped, TooLarge
from wholecommits.log import formatted
from wholecommits.pages import Pages
from wholecommits.tree import is_sound
from wholecommits.vacuum import sweep
from wholecommits.versions import all_versions, dict_at, take_version, write_all
from tests.log_rules import lying, pages_in, prefix_in
from tests.page_rules import Plain
from tests.tree_rules import check_rules

KEYS = ["a", "b", "c", "d", "e", "f", "g", "h", "i", "j", "k", "l"]


class Run:
    """A drawn row of deeds, the same for the same seed; behind each record it knows what the pages are to be."""

    def __init__(self, case, seed, blocks, ring):
        self.case = case
        self.draw = random.Random(seed)
        self.disk = formatted(blocks, ring)
        self.pages = Pages(self.disk)
        self.told = {-1: self.state()}
        self.forced = -1
        self.full = 0

    def state(self):
        return [self.pages.held(page) for page in range(self.pages.high())]

    def deeds(self, many):
        """Do so many deeds, or as many as there is power for."""
        try:
            for _ in range(many):
                self.one_deed()
                self.forced = self.pages.forced()
        except Stopped:
            pass

    def one_deed(self):
        deed = self.draw.choice(["batch", "batch", "batch", "force", "out", "out", "reach", "reach", "check"])
        if deed == "batch":
            self.one_batch()
        elif deed == "force" and self.pages.notes():
            self.pages.force(self.draw.choice(self.pages.notes())[0])
        elif deed == "out" and self.pages.dirty():
            self.pages.write_out(self.draw.choice(self.pages.dirty()))
        elif deed == "reach" and self.disk.waiting():
            self.disk.reach(self.draw.choice(sorted(self.disk.waiting())))
        elif deed == "check" and self.draw.random() < 0.3:
            self.pages.checkpoint()

    def one_batch(self):
        batch = self.pages.batch()
        plain = Plain([batch.get(page) for page in range(self.pages.high())]
                      + [()] * (self.pages.many() - self.pages.high()))
        for _ in range(self.draw.randrange(4)):
            usable = plain.usable()
            if self.draw.random() < 0.5 and plain.next_page() is not None:
                plain.take()
                batch.take_page()
            elif usable and self.draw.random() < 0.8:
                items = ("x",) + (self.draw.randrange(99),) * self.draw.randrange(39)
                page = self.draw.choice(usable)
                plain.put(page, items)
                batch.put(page, items)
            elif usable:
                page = self.draw.choice(usable)
                plain.give(page)
                batch.give_page(page)
        if self.done(batch):
            self.case.assertEqual(self.state(), plain.items[:plain.meta(2)])

    def done(self, batch):
        """Whether a batch was not too large."""
        try:
            number = batch.done((self.draw.randrange(9),))
        except TooLarge:
            batch.dropped()
            self.case.assertEqual(self.state(), self.told[self.pages.record()])
            return False
        self.told[number] = self.state()
        return True

    def check_behind(self):
        """Behind a cut: what lies there is what the pages were behind a record, none ahead of what was forced."""
        contents = lying(self.disk)
        rows, _ = prefix_in(contents)
        last = rows[-1][0] if rows else contents[0][4] - 1
        self.case.assertGreaterEqual(last, self.forced)
        items = pages_in(contents)[0]
        self.case.assertEqual(items[:len(self.told[last])], self.told[last])
        self.case.assertEqual(items[0], self.told[last][0])
        return last

    def opened(self):
        """Behind a cut: open, also stopped and cut while it is opened, and open again."""
        last = self.check_behind()
        disk = self.disk.copy()
        disk.power(0)
        self.case.assertRaises(Stopped, Pages, disk)
        disk.cut()
        first = self.held_by(Pages(disk))
        self.case.assertEqual(self.held_by(Pages(disk)), first)
        disk.cut()
        self.case.assertEqual(self.held_by(Pages(disk)), first)
        self.pages = Pages(self.disk)
        self.case.assertEqual(self.held_by(self.pages), first)
        self.case.assertEqual((self.pages.record(), self.pages.forced(), self.state()), (last, last, self.told[last]))
        self.case.assertEqual(first[1], pages_in(lying(self.disk))[2])
        self.told = {number: state for number, state in self.told.items() if number <= last}
        self.forced = last

    def held_by(self, pages):
        return [pages.held(page) for page in range(pages.high())], pages.dirty(), pages.notes(), pages.record()


class Versions(Run):
    """The same with trees of versions: behind each record it knows all versions, too."""

    writing = 0.6

    def __init__(self, case, seed, blocks, ring):
        self.versions = {}
        self.commit = 0
        Run.__init__(self, case, seed, blocks, ring)
        self.versions[-1] = []

    def one_batch(self):
        before = (self.state(), self.versions[self.pages.record()])
        batch = self.pages.batch()
        try:
            if self.draw.random() < self.writing:
                keys = self.draw.sample(KEYS, self.draw.randrange(1, 5))
                write_all(batch, self.commit + 1, {key: self.draw.choice([None, self.commit]) for key in keys})
            elif self.draw.random() < 0.5:
                for key, commit, _ in self.draw.sample(before[1], min(len(before[1]), 3)):
                    take_version(batch, key, commit)
            else:
                sweep(batch, (), max(1, self.commit), self.draw.choice([1, 4, 1000]))
        except NoRoom:
            self.full += 1
            batch.dropped()
            self.case.assertEqual((self.state(), all_versions(self.pages.batch())), before)
            return
        told = all_versions(batch)
        check_rules(batch)
        self.commit += 1
        if self.done(batch):
            self.versions[self.pages.record()] = told

    def opened(self):
        Run.opened(self)
        batch = self.pages.batch()
        self.case.assertEqual(all_versions(batch), self.versions[self.pages.record()])
        self.case.assertIs(is_sound(batch), True)
        check_rules(batch)
        newest = {}
        for key, commit, mark in reversed(self.versions[self.pages.record()]):
            newest[key] = mark
        self.case.assertEqual(dict_at(batch, 10 ** 18), {key: mark for key, mark in newest.items() if mark is not None})


class Full(Versions):
    """One that writes more than it takes."""

    writing = 0.95


class Cuts(unittest.TestCase):

    def all_cuts(self, kind, seed, blocks, ring, many):
        """Cut a drawn row of deeds behind each single write that reaches the disk; returns how many these are."""
        whole = kind(self, seed, blocks, ring)
        start = whole.disk.reached()
        whole.deeds(many)
        for power in range(whole.disk.reached() - start + 1):
            run = kind(self, seed, blocks, ring)
            run.disk.power(power)
            run.deeds(many)
            run.disk.cut()
            run.opened()
            run.deeds(8)
            run.disk.cut()
            run.opened()
        return whole

    def test_pages_cut_behind_each_write(self):
        reached = 0
        for seed in range(60):
            run = self.all_cuts(Run, seed, random.Random(seed).choice([18, 24]), 4 + seed % 2, 30)
            reached += run.disk.reached()
        self.assertGreater(reached, 1500)

    def test_versions_cut_behind_each_write(self):
        for seed in range(20):
            run = self.all_cuts(Versions, seed, 40, 10, 30)
            self.assertGreater(run.disk.reached(), 10)

    def test_again_and_again(self):
        for kind, blocks, ring in ((Run, 20, 4), (Versions, 60, 12), (Versions, 28, 10)):
            for seed in range(20):
                run = kind(self, seed, blocks, ring)
                for _ in range(12):
                    run.disk.power(run.draw.choice([None, None, 3, 9, 20]))
                    run.deeds(run.draw.randrange(20))
                    run.disk.cut()
                    run.opened()
                self.assertGreater(run.disk.lying(0)[1], 10)

    def test_opened_without_a_cut(self):
        for seed in range(40):
            run = Versions(self, seed, 40, 10)
            for _ in range(4):
                run.deeds(12)
                last = run.pages.record()
                run.forced = last
                run.disk.calm()
                run.opened()
                self.assertEqual(run.pages.record(), last)

    def test_disks_whose_pages_are_all_taken(self):
        full = 0
        for seed in range(8):
            run = self.all_cuts(Full, seed, 18, 10, 60)
            full += run.full
            self.assertEqual(run.pages.many(), 7)
        self.assertGreater(full, 20)

    def test_a_full_disk_is_as_before(self):
        disk = formatted(24, 12)
        pages = Pages(disk)
        commit = 0
        while True:
            batch = pages.batch()
            try:
                write_all(batch, commit + 1, {key: commit for key in KEYS})
            except NoRoom:
                break
            commit += 1
            batch.done(("commit", commit))
        batch.dropped()
        self.assertGreater(commit, 1)
        self.assertEqual((pages.in_use(), pages.record()), (pages.high(), commit - 1))
        before = all_versions(pages.batch())
        self.assertEqual(len(before), commit * len(KEYS))
        pages.force(commit - 1)
        disk.cut()
        pages = Pages(disk)
        batch = pages.batch()
        self.assertEqual(all_versions(batch), before)
        self.assertEqual(sweep(batch, (), commit, 1000), (commit - 1) * len(KEYS))
        batch.done(("sweep",))
        batch = pages.batch()
        write_all(batch, commit + 1, {key: 7 for key in KEYS})
        batch.done(("commit", commit + 1))
        pages.checkpoint()
        disk.cut()
        self.assertEqual(dict_at(Pages(disk).batch(), commit + 1), {key: 7 for key in KEYS})


if __name__ == "__main__":
    unittest.main()
