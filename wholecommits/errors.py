"""All error classes of the package."""


class StoreError(ValueError):
    """What all errors of the package are."""


class Ended(StoreError):
    """A transaction is at its end."""


class BadDisk(StoreError):
    """What was given is no disk of the kind that is asked for."""


class NoBlock(StoreError):
    """What was given is no block of the disk, or no lot of its blocks."""


class NoContent(StoreError):
    """What was given is no content of a block."""


class NothingWaits(StoreError):
    """No write waits for the block."""


class Stopped(StoreError):
    """The power is gone: no further write can reach the disk."""


class NoRecord(StoreError):
    """What was given is no record."""


class LogFull(StoreError):
    """The ring has no room for the record."""


class NoPage(StoreError):
    """What was given is no page that is let here."""


class NoItems(StoreError):
    """What was given are no items of a page."""


class NoRoom(StoreError):
    """No page is left."""


class NoNote(StoreError):
    """What was given is no note of a batch."""


class TooLarge(StoreError):
    """A batch is too large for one record."""


class Over(StoreError):
    """A batch was done or dropped, or another one was begun."""


class NoSpot(StoreError):
    """What was given is no spot of a tree."""


class NoMark(StoreError):
    """What was given is no mark."""


class NotThere(StoreError):
    """Nothing stands at the spot."""


class NoCommit(StoreError):
    """What was given is no number of a commit."""


class NoChanges(StoreError):
    """What was given is no dict from keys to marks."""


class NoSnapshot(StoreError):
    """What was given is no snapshot that is let here."""


class NoKey(StoreError):
    """What was given is no key."""


class NoWorth(StoreError):
    """What was given is no worth."""


class NoNumber(StoreError):
    """What was given is no number that is let here."""


class NotOpen(StoreError):
    """What was given is no number of an open one."""


class BadSeen(StoreError):
    """What was given are no keys, or no ranges, that can be seen."""


class BadWrites(StoreError):
    """What was given are no writes."""


class NotRemembered(StoreError):
    """What was given is no entry that is remembered."""


class NoIndex(StoreError):
    """What was given is no index of the history."""


class NoOrder(StoreError):
    """What was given is no order of the history."""


class NotSerial(StoreError):
    """The order is not a serial one."""


class NoSnapshots(StoreError):
    """What was given is no lot of open snapshots."""


class NoVersion(StoreError):
    """What was given is no commit of one of the versions."""


class NotAsked(StoreError):
    """The hand has come to its end and asks nothing."""


class NoAnswer(StoreError):
    """What was given is no answer to what was asked."""


class NoState(StoreError):
    """What was given is no dict from keys to worths."""


class NoLine(StoreError):
    """What was given is no line of the desk."""


class InUse(StoreError):
    """A transaction of this name is under way."""


class NoLines(StoreError):
    """What was given is no list or tuple of lines."""


class Refused(StoreError):
    """A commit would close a ring of ties, which is told."""

    def __init__(self, ring):
        self.ring = ring


class BadDealing(StoreError):
    """A dealing can not be made, for the part that is told."""

    def __init__(self, part):
        self.part = part


class NoPlay(StoreError):
    """What was given is no play, for the part that is told."""

    def __init__(self, part):
        self.part = part


class BadHistory(StoreError):
    """What was given is no history, for the dealing that is told."""

    def __init__(self, index):
        self.index = index


class NoVersions(StoreError):
    """What was given are no versions, for the one that is told."""

    def __init__(self, index):
        self.index = index


class TooMany(StoreError):
    """There are more dealings than the number that is told."""

    def __init__(self, most):
        self.most = most


class BadText(StoreError):
    """A text has not the form that is asked for, at the line that is told."""

    def __init__(self, line):
        self.line = line


class BadProgram(StoreError):
    """What was given is no program, for the statement at the place that is told."""

    def __init__(self, place):
        self.place = place


class NoName(StoreError):
    """No transaction of the name that is told is under way."""

    def __init__(self, name):
        self.name = name
