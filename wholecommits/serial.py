"""An exact check of serial order: it numbers commits and refuses those that no serial order can hold."""

from wholecommits.errors import BadSeen, BadWrites, NoNumber, NoSnapshot, NotOpen, NotRemembered, Refused
from wholecommits.judges import Dealing
from wholecommits.kinds import is_keys, is_number, is_ranges, is_within, is_writes
from wholecommits.ties import is_tied, reached_from, ring_from, saw_key


class Check:
    """The snapshots of the open entries, and the dealings of the remembered ones with the ways of ties among them."""

    def __init__(self, last):
        if not is_number(last):
            raise NoNumber()
        self.newest = last
        self.opened = 0
        self.snapshots = {}
        self.dealings = {}
        self.ways = {}

    def opens(self, snapshot):
        """Let a new entry be open; returns its number."""
        if not is_within(self.least_snapshot(), self.newest, snapshot):
            raise NoSnapshot()
        entry = self.opened
        self.snapshots[entry] = snapshot
        self.opened += 1
        return entry

    def commits(self, entry, keys, ranges, writes):
        """Let an open entry be committed; returns the number of its commit, None if it writes nothing."""
        dealing, ways = self.judged(entry, keys, ranges, writes)
        self.dealings[entry] = dealing
        self.ways = ways
        if dealing.number is not None:
            self.newest = dealing.number
        del self.snapshots[entry]
        self.forget()
        return dealing.number

    def would_commit(self, entry, keys, ranges, writes):
        """What commits would return now."""
        dealing, _ = self.judged(entry, keys, ranges, writes)
        return dealing.number

    def gives_up(self, entry):
        """Let an open entry be as if it never was."""
        self.demand_open(entry)
        del self.snapshots[entry]
        self.forget()

    def last(self):
        """The number of the last commit."""
        return self.newest

    def open_entries(self):
        """The lot of the open entries."""
        return tuple(sorted(self.snapshots))

    def remembered(self):
        """The lot of the committed entries that are still known."""
        return tuple(sorted(self.dealings))

    def could_ring(self, entry):
        """An open entry, with the keys it sees and what it writes, that would be refused with a ring through this."""
        if not is_number(entry) or entry not in self.dealings:
            raise NotRemembered()
        least = self.least_snapshot()
        eldest = min([other for other in self.snapshots if self.snapshots[other] == least])
        starts = [start for start in self.unseen() if entry in reached_from([start], self.ways)]
        first = entry if entry in starts else min(starts)
        key = self.dealings[first].writes[0][0]
        return eldest, (key,), ((self.key_into(entry), 0),)

    def copy(self):
        """A check in equal state that goes on apart."""
        other = Check(self.newest)
        other.opened = self.opened
        other.snapshots = dict(self.snapshots)
        other.dealings = dict(self.dealings)
        other.ways = {entry: list(self.ways[entry]) for entry in self.ways}
        return other

    def demand_open(self, entry):
        """Raise NotOpen for what is no open entry."""
        if not is_number(entry) or entry not in self.snapshots:
            raise NotOpen()

    def least_snapshot(self):
        """The least snapshot of an open entry, or that of now if none is open."""
        return min(self.snapshots.values(), default=self.newest)

    def judged(self, entry, keys, ranges, writes):
        """The pair of the dealing with which an entry may commit and of the ways of ties with it."""
        self.demand_open(entry)
        if not is_keys(keys) or not is_ranges(ranges):
            raise BadSeen()
        if not is_writes(writes):
            raise BadWrites()
        number = self.newest + 1 if writes else None
        dealing = Dealing(self.snapshots[entry], number, keys, ranges, writes)
        ways = self.ways_with(entry, dealing)
        # Those that were committed have no ring among themselves, so each ring goes through this one.
        ring = ring_from(entry, ways)
        if ring is not None:
            raise Refused(ring)
        return dealing, ways

    def ways_with(self, entry, dealing):
        """The ways of ties among the remembered ones and one more."""
        ways = {entry: []}
        for other in self.dealings:
            ways[other] = list(self.ways[other])
            if is_tied(self.dealings[other], dealing):
                ways[other].append(entry)
            if is_tied(dealing, self.dealings[other]):
                ways[entry].append(other)
        return ways

    def unseen(self):
        """The list of the committed entries with a number beyond the snapshot of an open one."""
        least = self.least_snapshot()
        numbers = {entry: self.dealings[entry].number for entry in self.dealings}
        return [entry for entry in numbers if numbers[entry] is not None and numbers[entry] > least]

    def forget(self):
        """Forget all to which no ties lead from what is unseen."""
        met = reached_from(self.unseen(), self.ways)
        self.dealings = {entry: self.dealings[entry] for entry in self.dealings if entry in met}
        self.ways = {entry: self.ways[entry] for entry in self.ways if entry in met}

    def key_into(self, entry):
        """A key that an open entry may write so that a tie leads to it from a remembered one."""
        dealing = self.dealings[entry]
        if dealing.writes:
            return dealing.writes[0][0]
        # It is remembered by a tie from one that wrote what it has seen.
        written = [key for other in self.dealings for key, _ in self.dealings[other].writes]
        return min([key for key in written if saw_key(dealing, key)])
