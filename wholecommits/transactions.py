"""Transactions: each reads the store as it stood at its snapshot, and keeps to itself what it writes."""

from wholecommits.demands import demand_key
from wholecommits.errors import Ended, NoWorth
from wholecommits.judges import Dealing
from wholecommits.kinds import is_worth


class Transaction:
    """A transaction over a snapshot, which is asked by two functions; it knows what it asked and what it wrote."""

    def __init__(self, snapshot, look, walk):
        self.snapshot = snapshot
        self.ask_key = look
        self.ask_range = walk
        self.asked_keys = {}
        self.asked_ranges = {}
        self.marks = {}
        self.closed = False

    def stands_at(self):
        """Its snapshot."""
        return self.snapshot

    def get(self, key):
        """The worth of a key, None if it has none."""
        self.demand_open()
        demand_key(key)
        if key in self.marks:
            return self.marks[key]
        ask = self.ask_key
        worth = ask(key)
        self.asked_keys[key] = True
        return worth

    def between(self, low, high):
        """The ascending list of the pairs of keys and worths from low to high, both counted."""
        self.demand_open()
        demand_key(low)
        demand_key(high)
        if high < low:
            return []
        ask = self.ask_range
        worths = dict(ask(low, high))
        own = tuple([key for key in sorted(self.marks) if low <= key <= high])
        self.asked_ranges[(low, high, own)] = True
        for key in own:
            worths[key] = self.marks[key]
        return [(key, worths[key]) for key in sorted(worths) if worths[key] is not None]

    def put(self, key, worth):
        """Let a key have this worth."""
        self.demand_open()
        demand_key(key)
        if not is_worth(worth):
            raise NoWorth()
        self.marks[key] = worth

    def drop(self, key):
        """Let a key have no worth."""
        self.demand_open()
        demand_key(key)
        self.marks[key] = None

    def end(self):
        """Let it be at its end."""
        self.demand_open()
        self.closed = True

    def is_open(self):
        """Whether it is not at its end."""
        return not self.closed

    def saw_keys(self):
        """The ascending tuple of the keys that it got from the snapshot."""
        return tuple(sorted(self.asked_keys))

    def saw_ranges(self):
        """The ascending tuple of the triples of its ranges, with the keys in them that it had written then."""
        return tuple(sorted(self.asked_ranges))

    def wrote(self):
        """The ascending tuple of the pairs of keys and marks that it wrote last."""
        return tuple([(key, self.marks[key]) for key in sorted(self.marks)])

    def dealing(self, number):
        """The dealing that it makes with this number."""
        return Dealing(self.snapshot, number, self.saw_keys(), self.saw_ranges(), self.wrote())

    def demand_open(self):
        """Raise Ended behind the end."""
        if self.closed:
            raise Ended()
