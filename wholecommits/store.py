"""The store whole: transactions over the versions in the pages of a disk, a check of serial order, and vacuum."""

from wholecommits.errors import NoRoom, NotOpen, TooLarge
from wholecommits.kinds import is_number
from wholecommits.log import formatted
from wholecommits.pages import Pages
from wholecommits.serial import Check
from wholecommits.transactions import Transaction
from wholecommits.vacuum import sweep, takeable
from wholecommits.versions import all_versions, at, dict_at, range_at, write_all

SWEPT_AT_ONCE = 8


class Store:
    """The pages of a disk, the transactions under way by their numbers, and the record of each commit since it opened.

    No batch is under way between two calls, so that each call may begin one.
    """

    def __init__(self, disk):
        self.pages = Pages(disk)
        self.device = disk
        self.opened_at = self.pages.batch().last()
        self.check = Check(self.opened_at)
        self.under_way = {}
        self.commit_records = {}

    def begin(self):
        """Begin a transaction over the snapshot of now; returns its number."""
        snapshot = self.last()

        def look(key):
            return at(self.pages.batch(), snapshot, key)

        def walk(low, high):
            return range_at(self.pages.batch(), snapshot, low, high)

        number = self.check.opens(snapshot)
        self.under_way[number] = Transaction(snapshot, look, walk)
        return number

    def stands_at(self, number):
        """The snapshot of an open transaction."""
        return self.open_one(number).stands_at()

    def get(self, number, key):
        """The worth of a key as an open transaction finds it, None if it has none."""
        return self.open_one(number).get(key)

    def between(self, number, low, high):
        """The ascending list of the pairs of keys and worths from low to high as an open transaction finds them."""
        return self.open_one(number).between(low, high)

    def put(self, number, key, worth):
        """Let a key have this worth in an open transaction."""
        self.open_one(number).put(key, worth)

    def drop(self, number, key):
        """Let a key have no worth in an open transaction."""
        self.open_one(number).drop(key)

    def abort(self, number):
        """Let an open transaction be as if it never was."""
        self.open_one(number).end()
        self.check.gives_up(number)
        del self.under_way[number]

    def commit(self, number):
        """Commit an open transaction and force what it stands on; returns the commit's number, None for a looker."""
        snapshot = self.stands_at(number)
        done = self.commit_soon(number)
        self.force_commit(snapshot if done is None else done)
        return done

    def commit_soon(self, number):
        """Commit an open transaction, which a cut may undo as long as nothing forces it; returns as commit does."""
        made = self.open_one(number)
        keys = made.saw_keys()
        ranges = made.saw_ranges()
        writes = made.wrote()
        done = self.check.would_commit(number, keys, ranges, writes)
        if done is not None:
            self.write_commit(done, dict(writes))
        self.check.commits(number, keys, ranges, writes)
        made.end()
        del self.under_way[number]
        return done

    def open_ones(self):
        """The dict from the numbers of the open transactions to their snapshots."""
        return {number: self.under_way[number].stands_at() for number in self.under_way}

    def open_snapshots(self):
        """The lot of the snapshots of the open transactions."""
        snapshots = list(self.open_ones().values())
        return tuple(sorted(set(snapshots)))

    def last(self):
        """The number of the last commit."""
        return self.check.last()

    def lasting(self):
        """The number of the last commit that no cut can undo, by what was forced or read at the opening."""
        forced = self.pages.forced()
        return max([commit for commit, record in self.commit_records.items() if record <= forced],
                   default=self.opened_at)

    def force(self):
        """Force all of the log."""
        if self.pages.forced() < self.pages.record():
            self.pages.force(self.pages.record())

    def now(self):
        """The dict that the last snapshot sees."""
        return dict_at(self.pages.batch(), self.last())

    def debt(self):
        """How many versions nobody can read any more."""
        return len(takeable(self.pages.batch(), self.open_snapshots(), self.last()))

    def sweep(self, most):
        """Take the first so many versions that nobody can read any more; returns how many went."""
        batch = self.pages.batch()
        many = sweep(batch, self.open_snapshots(), self.last(), most)
        if many == 0:
            batch.dropped()
            return 0
        try:
            batch.done(("sweep",))
        except TooLarge:
            batch.dropped()
            raise
        return many

    def vacuum(self):
        """Sweep until nothing is left to go; returns how many versions went."""
        total = 0
        went = self.sweep(SWEPT_AT_ONCE)
        while went > 0:
            total += went
            went = self.sweep(SWEPT_AT_ONCE)
        return total

    def versions(self):
        """The list of the triples (key, commit, mark) of all versions, of each key the newest first."""
        return all_versions(self.pages.batch())

    def checkpoint(self):
        """Bring all pages to the disk and let the log begin behind its last record."""
        self.pages.checkpoint()

    def dirty(self):
        """The lot of the dirty pages."""
        return self.pages.dirty()

    def write_out(self, page):
        """Write a dirty page to its block, where it waits; returns whether it was dirty."""
        return self.pages.write_out(page)

    def disk(self):
        """The disk."""
        return self.device

    def ties_of_now(self):
        """The pair of the lots of the transactions that the check remembers and of those that are open."""
        return self.check.remembered(), self.check.open_entries()

    def open_one(self, number):
        """The transaction of this number: NotOpen for what is no number of an open one."""
        if not is_number(number) or number not in self.under_way:
            raise NotOpen()
        return self.under_way[number]

    def write_commit(self, commit, changes):
        """Let the changes be versions of a new last commit, in one record."""
        batch = self.pages.batch()
        try:
            write_all(batch, commit, changes)
            batch.set_last(commit)
            self.commit_records[commit] = batch.done(("commit", commit))
        except (NoRoom, TooLarge):
            batch.dropped()
            raise

    def force_commit(self, commit):
        """Force the log as far as the record of a commit, of 0 or one of an earlier opening nothing."""
        record = self.commit_records.get(commit, -1)
        # A record that is forced may have been forgotten by the log, which then takes its number no more.
        if record > self.pages.forced():
            self.pages.force(record)


def new_store(blocks, ring):
    """The store of a new disk with so many blocks, so many of them for the log."""
    return Store(formatted(blocks, ring))
