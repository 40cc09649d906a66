"""A store beside plain dicts: of each commit the dict that it makes, of each key its versions, and all that was ever
seen and written, by points 8.2, 8.3, 10 and 11, written apart from the package."""

from wholecommits.errors import NoRoom, Refused, TooLarge
from wholecommits.pages import Pages
from wholecommits.store import Store
from wholecommits.versions import take_version, write_all
from tests.dealing_rules import Row, ring_by_distance, tied
from tests.log_rules import pages_in, prefix_in, written
from tests.lying_rules import last_lying, versions_lying
from tests.test_vacuum import plain_needed

KEYS = ["a", "aa", "b", "c", "ca", "d", "m", "z" * 12]
WORTHS = [0, 1, -1, 7, 10 ** 18, -10 ** 18]


def written_twin(disk):
    """Another disk on which all lies that is read on this one."""
    twin = disk.copy()
    for block in disk.waiting():
        twin.write(block, disk.read(block))
    twin.calm()
    return twin


def record_told(batch, note):
    """The record that a batch is to be with a note."""
    record = [len(note), *note]
    for page in batch.changed():
        record += [page, len(batch.get(page)), *batch.get(page)]
    return tuple(record)


def is_too_large(disk, record):
    return len(record) > 6000 or (len(record) + 35) // 36 > disk.lying(0)[2]


def record_due(disk, note, change):
    """The record that a change of a batch is to make on a disk, or the class of the error that is due."""
    batch = Pages(written_twin(disk)).batch()
    try:
        change(batch)
    except NoRoom:
        return NoRoom
    record = record_told(batch, note)
    return TooLarge if is_too_large(disk, record) else record


class Begun:
    """What the test knows of a transaction under way."""

    def __init__(self, snapshot, worths):
        self.snapshot = snapshot
        self.state = dict(worths)
        self.keys = set()
        self.ranges = set()
        self.marks = {}

    def row(self, number):
        return Row(self.snapshot, number, self.keys, sorted(self.ranges), sorted(self.marks.items()))


class Beside:
    """A store and the plain account of it, from an opening on."""

    def __init__(self, case, store, dicts, versions):
        self.case = case
        self.store = store
        self.disk = store.disk()
        self.dicts = list(dicts)
        self.versions = {key: dict(marks) for key, marks in versions.items()}
        self.open = {}
        self.begun = 0
        self.rows = {}
        self.ties = {}
        self.records = {}
        self.opened_at = len(self.dicts) - 1
        self.forced_record = self.last_record()
        self.refused = 0
        self.too_large = 0
        self.no_room = 0

    def last_record(self):
        rows, _ = prefix_in(written(self.disk))
        return rows[-1][0] if rows else self.disk.read(0)[4] - 1

    def last(self):
        return len(self.dicts) - 1

    # transactions

    def begin(self):
        self.case.assertEqual(self.store.begin(), self.begun)
        self.open[self.begun] = Begun(self.last(), self.dicts[-1])
        self.begun += 1
        return self.begun - 1

    def get(self, number, key):
        one = self.open[number]
        if key not in one.marks:
            one.keys.add(key)
        self.case.assertEqual(self.store.get(number, key), one.state.get(key))

    def between(self, number, low, high):
        one = self.open[number]
        if low <= high:
            one.ranges.add((low, high, tuple(sorted(key for key in one.marks if low <= key <= high))))
        found = self.store.between(number, low, high)
        self.case.assertIs(type(found), list)
        self.case.assertEqual(found, sorted(pair for pair in one.state.items() if low <= pair[0] <= high))
        found.clear()

    def put(self, number, key, worth):
        one = self.open[number]
        one.state[key] = one.marks[key] = worth
        self.case.assertIsNone(self.store.put(number, key, worth))

    def drop(self, number, key):
        one = self.open[number]
        one.state.pop(key, None)
        one.marks[key] = None
        self.case.assertIsNone(self.store.drop(number, key))

    def abort(self, number):
        self.case.assertIsNone(self.store.abort(number))
        del self.open[number]

    def ring_due(self, number, row):
        """The ring by which a transaction is to be refused, and the ties with it; of all that were ever committed."""
        ties = {one: set(others) for one, others in self.ties.items()}
        ties[number] = {other for other in self.rows if tied(row, self.rows[other])}
        for other in self.rows:
            if tied(self.rows[other], row):
                ties[other].add(number)
        return ring_by_distance(number, ties), ties

    def commit(self, number, soon=False):
        """Commit one; what came of it: "done", "Refused", "TooLarge" or "NoRoom"."""
        one = self.open[number]
        commit = self.last() + 1 if one.marks else None
        row = one.row(commit)
        ring, ties = self.ring_due(number, row)
        call = self.store.commit_soon if soon else self.store.commit
        if ring is not None:
            with self.case.assertRaises(Refused) as caught:
                call(number)
            self.case.assertEqual(caught.exception.ring, ring)
            self.refused += 1
            return "Refused"
        if commit is not None and not self.writes(commit, one.marks, call, number):
            return "TooLarge"
        if commit is None:
            before = written(self.disk)
            self.case.assertIsNone(call(number))
            self.case.assertEqual(written(self.disk), before)
        self.rows[number] = row
        self.ties = ties
        del self.open[number]
        if not soon:
            self.force_to(self.records.get(one.snapshot if commit is None else commit, -1))
        return "done"

    def writes(self, commit, marks, call, number):
        """Let one that writes commit; whether it was not too large and had room."""
        def change(batch):
            write_all(batch, commit, dict(marks))
            batch.set_last(commit)
        due = record_due(self.disk, ("commit", commit), change)
        if not isinstance(due, tuple):
            self.fails(due, call, number)
            return False
        start = self.disk.read(0)[4]
        self.case.assertEqual(call(number), commit)
        self.record_made(due, start)
        self.records[commit] = self.last_record()
        self.dicts.append({key: worth for key, worth in {**self.dicts[-1], **marks}.items() if worth is not None})
        for key, mark in marks.items():
            self.versions.setdefault(key, {})[commit] = mark
        return True

    def fails(self, error, call, argument):
        """A call that raises an error leaves all that is read, and what waits, as it is."""
        before = (written(self.disk), self.disk.waiting(), self.disk.reached())
        self.case.assertRaises(error, call, argument)
        self.case.assertEqual((written(self.disk), self.disk.waiting(), self.disk.reached()), before)
        self.too_large += error is TooLarge
        self.no_room += error is NoRoom

    def record_made(self, record, start):
        """This is the last record now; a checkpoint may have been made ahead of it, where the log had no room."""
        contents = written(self.disk)
        rows, _ = prefix_in(contents)
        self.case.assertEqual(rows[-1][1], record)
        if contents[0][4] != start:
            self.case.assertEqual(contents[0][4], rows[-1][0])
            self.force_to(rows[-1][0] - 1)

    # the store as a whole

    def force_to(self, record):
        self.forced_record = max(self.forced_record, record)
        lying = prefix_in([self.disk.lying(block) for block in range(self.disk.blocks())])[0]
        if lying and record >= self.disk.lying(0)[4]:
            self.case.assertGreaterEqual(lying[-1][0], record)

    def force(self):
        self.case.assertIsNone(self.store.force())
        self.force_to(self.last_record())

    def checkpoint(self):
        self.case.assertIsNone(self.store.checkpoint())
        self.force_to(self.last_record())
        self.case.assertEqual((self.disk.waiting(), self.store.dirty()), ({}, ()))
        self.case.assertEqual(prefix_in(written(self.disk))[0], [])

    def write_out(self, page):
        contents = written(self.disk)
        dirty = page in pages_in(contents)[2]
        self.case.assertIs(self.store.write_out(page), dirty)
        if dirty:
            self.force_to(pages_in(contents)[1][page])

    def needed(self, key):
        versions = sorted(self.versions[key].items(), reverse=True)
        return plain_needed(versions, self.snapshots(), self.last())

    def takeable(self):
        """The list of what can go, as 10.2 orders it."""
        return [(key, commit) for key in sorted(self.versions) for commit in sorted(self.versions[key])
                if commit not in self.needed(key)]

    def sweep(self, most):
        """One sweep; how many went, None where the record would have been too large."""
        going = self.takeable()[:most]
        if not going:
            before = written(self.disk)
            self.case.assertEqual(self.store.sweep(most), 0)
            self.case.assertEqual(written(self.disk), before)
            return 0

        def change(batch):
            for key, commit in going:
                take_version(batch, key, commit)
        due = record_due(self.disk, ("sweep",), change)
        if not isinstance(due, tuple):
            self.fails(due, self.store.sweep, most)
            return None
        start = self.disk.read(0)[4]
        self.case.assertEqual(self.store.sweep(most), len(going))
        self.record_made(due, start)
        for key, commit in going:
            del self.versions[key][commit]
        return len(going)

    def vacuum(self):
        """Vacuum; how many went, None where a record would have been too large."""
        going = self.takeable()
        pages = Pages(written_twin(self.disk))
        due = []
        for at in range(0, len(going), 8):
            batch = pages.batch()
            for key, commit in going[at:at + 8]:
                take_version(batch, key, commit)
            due.append(record_told(batch, ("sweep",)))
            if is_too_large(self.disk, due[-1]):
                break
            batch.done(("sweep",))
        large = due != [] and is_too_large(self.disk, due[-1])
        if large:
            due.pop()
            going = going[:8 * len(due)]
            self.case.assertRaises(TooLarge, self.store.vacuum)
            self.too_large += 1
        else:
            self.case.assertEqual(self.store.vacuum(), len(going))
        rows = [record for _, record in prefix_in(written(self.disk))[0]]
        many = min(len(rows), len(due))
        self.case.assertEqual(rows[len(rows) - many:], due[len(due) - many:])
        self.force_to(self.disk.read(0)[4] - 1)
        for key, commit in going:
            del self.versions[key][commit]
        return None if large else len(going)

    def snapshots(self):
        return tuple(sorted({one.snapshot for one in self.open.values()}))

    def lasting(self):
        return max([self.opened_at] + [commit for commit, record in self.records.items()
                                       if record <= self.forced_record])

    def remembered(self):
        """What is remembered by 8.3, word by word."""
        met = set()
        rest = [one for one, row in self.rows.items()
                if row.number is not None and any(row.number > snapshot for snapshot in self.snapshots())]
        while rest:
            one = rest.pop()
            if one not in met:
                met.add(one)
                rest += self.ties[one]
        return tuple(sorted(met))

    def compare(self):
        case, store = self.case, self.store
        case.assertEqual(store.open_ones(), {number: one.snapshot for number, one in self.open.items()})
        case.assertEqual([store.stands_at(number) for number in self.open],
                         [one.snapshot for one in self.open.values()])
        case.assertEqual(store.open_snapshots(), self.snapshots())
        case.assertEqual((store.last(), store.lasting()), (self.last(), self.lasting()))
        case.assertEqual(store.now(), self.dicts[-1])
        case.assertEqual(store.debt(), len(self.takeable()))
        case.assertEqual(store.versions(), [(key, commit, self.versions[key][commit]) for key in sorted(self.versions)
                                            for commit in sorted(self.versions[key], reverse=True)])
        case.assertEqual(store.ties_of_now(), (self.remembered(), tuple(sorted(self.open))))
        case.assertEqual(store.dirty(), pages_in(written(self.disk))[2])
        case.assertIs(store.disk(), self.disk)


def opened_behind_cut(beside):
    """Cut the disk of a store; returns the new store beside what is left of the commits."""
    lasting = beside.lasting()
    beside.disk.cut()
    last = last_lying(beside.disk)
    beside.case.assertTrue(lasting <= last <= beside.last())
    versions = {}
    for (key, commit), mark in versions_lying(beside.disk).items():
        versions.setdefault(key, {})[commit] = mark
    opened = Beside(beside.case, Store(beside.disk), beside.dicts[:last + 1], versions)
    opened.compare()
    return opened


def put_all(store, worths, soon=False):
    """Commit one transaction that puts a dict, dropping keys for None; returns what the commit returns."""
    number = store.begin()
    for key, worth in worths.items():
        if worth is None:
            store.drop(number, key)
        else:
            store.put(number, key, worth)
    return store.commit_soon(number) if soon else store.commit(number)


def one_deed(draw, beside, most_open=5, keys=KEYS):
    """One drawn call of a store."""
    deed = draw.choice("""begin begin begin get get get between put put put drop commit commit commit soon soon abort
                          more more""".split())
    if deed == "begin":
        if len(beside.open) < most_open:
            beside.begin()
    elif deed == "more":
        whole_deed(draw, beside)
    elif beside.open:
        number = draw.choice(sorted(beside.open))
        if deed == "get":
            beside.get(number, draw.choice(keys))
        elif deed == "between":
            beside.between(number, draw.choice(keys), draw.choice(keys))
        elif deed == "put":
            beside.put(number, draw.choice(keys), draw.choice(WORTHS))
        elif deed == "drop":
            beside.drop(number, draw.choice(keys))
        elif deed == "abort":
            beside.abort(number)
        elif beside.commit(number, deed == "soon") != "done" and draw.random() < 0.7:
            beside.abort(number)


def whole_deed(draw, beside):
    """One drawn call that is of no transaction."""
    deed = draw.choice("force check out out reach reach sweep sweep vacuum".split())
    if deed == "force":
        beside.force()
    elif deed == "check":
        beside.checkpoint()
    elif deed == "out":
        beside.write_out(draw.randrange(beside.store.pages.high()))
    elif deed == "reach" and beside.disk.waiting():
        beside.disk.reach(draw.choice(sorted(beside.disk.waiting())))
    elif deed == "sweep":
        beside.sweep(draw.choice([1, 2, 3, 8, 1000]))
    elif deed == "vacuum" and draw.random() < 0.5:
        beside.vacuum()
