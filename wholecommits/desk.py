"""A desk: a store that is led by lines, and what a row of lines tells."""

from wholecommits.errors import (InUse, NoBlock, NoLine, NoLines, NoName, NoNumber, NoPage, NoRoom, NothingWaits,
                                 Refused, TooLarge)
from wholecommits.expressions import is_name
from wholecommits.figures import integer_told
from wholecommits.kinds import GREATEST, is_key, is_within, is_worth
from wholecommits.store import Store, new_store

MOST_FIGURES = 19
# What stands behind the first word of a line.
FORMS = {
    "begin": ("name",),
    "get": ("name", "key"),
    "put": ("name", "key", "worth"),
    "drop": ("name", "key"),
    "range": ("name", "key", "key"),
    "abort": ("name",),
    "commit": ("name",),
    "soon": ("name",),
    "snapshot": ("name",),
    "show": ("key",),
    "state": (),
    "versions": ("key",),
    "debt": (),
    "sweep": ("number",),
    "vacuum": (),
    "force": (),
    "check": (),
    "dirty": (),
    "out": ("number",),
    "reach": ("number",),
    "last": (),
    "lasting": (),
    "cut": (),
}


class Desk:
    """A store, and the numbers of the transactions under way by their names."""

    def __init__(self, blocks, ring):
        self.store = new_store(blocks, ring)
        self.numbers = {}

    def tell(self, line):
        """Do what a line says; returns what it tells."""
        words = words_of(line)
        parts = parts_of(words)
        word = words[0]
        if word == "begin":
            return self.begin(parts[0])
        if FORMS[word][:1] != ("name",):
            return self.tell_of_store(word, parts)
        name = parts[0]
        if name not in self.numbers:
            raise NoName(name)
        if word in ("abort", "commit", "soon"):
            told = self.end(word, self.numbers[name])
            del self.numbers[name]
            return told
        return self.tell_of_one(word, self.numbers[name], parts[1:])

    def begin(self, name):
        """Begin a transaction of this name."""
        if name in self.numbers:
            raise InUse()
        self.numbers[name] = self.store.begin()
        return "ok"

    def end(self, word, number):
        """Let a transaction come to its end by abort, commit or soon."""
        if word == "commit":
            return told_mark(self.store.commit(number))
        if word == "soon":
            return told_mark(self.store.commit_soon(number))
        self.store.abort(number)
        return "ok"

    def tell_of_one(self, word, number, parts):
        """Do what a line says of a transaction that goes on."""
        if word == "get":
            return told_mark(self.store.get(number, parts[0]))
        if word == "range":
            return told_pairs(self.store.between(number, parts[0], parts[1]))
        if word == "snapshot":
            return str(self.store.stands_at(number))
        if word == "put":
            self.store.put(number, parts[0], parts[1])
        else:
            self.store.drop(number, parts[0])
        return "ok"

    def tell_of_store(self, word, parts):
        """Do what a line says of the store as a whole."""
        if word in ("show", "state", "versions"):
            return self.tell_worths(word, parts)
        if word in ("sweep", "out", "reach"):
            return self.tell_numbered(word, parts[0])
        if word == "debt":
            return str(self.store.debt())
        if word == "vacuum":
            return str(self.store.vacuum())
        if word == "last":
            return str(self.store.last())
        if word == "lasting":
            return str(self.store.lasting())
        if word == "dirty":
            return told_row([str(page) for page in self.store.dirty()])
        if word == "force":
            self.store.force()
        elif word == "check":
            self.store.checkpoint()
        else:
            self.cut()
        return "ok"

    def tell_worths(self, word, parts):
        """What the snapshot of now sees, or the versions of a key."""
        if word == "versions":
            return told_pairs([(commit, mark) for key, commit, mark in self.store.versions() if key == parts[0]])
        worths = self.store.now()
        if word == "show":
            return told_mark(worths.get(parts[0]))
        return told_pairs([(key, worths[key]) for key in sorted(worths)])

    def tell_numbered(self, word, number):
        """Do what a line with a number says."""
        if word == "sweep":
            return str(self.store.sweep(number))
        if word == "out":
            return "yes" if self.store.write_out(number) else "no"
        self.store.disk().reach(number)
        return "ok"

    def cut(self):
        """Lose what has not reached the disk, and the transactions under way; open the store anew."""
        disk = self.store.disk()
        disk.cut()
        self.store = Store(disk)
        self.numbers = {}


def tale(blocks, ring, lines):
    """The list of what a new desk tells to lines, errors by their names in parentheses."""
    desk = Desk(blocks, ring)
    if not isinstance(lines, (list, tuple)):
        raise NoLines()
    return [told_or_error(desk, line) for line in lines]


def told_or_error(desk, line):
    """What a desk tells to a line, or the name of the error that it raises in parentheses."""
    try:
        return desk.tell(line)
    except NoLine:
        return "(NoLine)"
    except NoName:
        return "(NoName)"
    except InUse:
        return "(InUse)"
    except Refused:
        return "(Refused)"
    except TooLarge:
        return "(TooLarge)"
    except NoRoom:
        return "(NoRoom)"
    except NoNumber:
        return "(NoNumber)"
    except NoPage:
        return "(NoPage)"
    except NoBlock:
        return "(NoBlock)"
    except NothingWaits:
        return "(NothingWaits)"


def words_of(thing):
    """The list of the words of a line of which the first one is known: NoLine for what is none."""
    if not isinstance(thing, str):
        raise NoLine()
    words = thing.split(" ")
    if words[0] not in FORMS or len(words) != 1 + len(FORMS[words[0]]):
        raise NoLine()
    return words


def parts_of(words):
    """The list of what the words behind the first one tell: NoLine if one of them has not its form."""
    parts = [part_told(kind, word) for kind, word in zip(FORMS[words[0]], words[1:])]
    if any([part is None for part in parts]):
        raise NoLine()
    return parts


def part_told(kind, word):
    """The name, key, number or worth that a word tells, None if it tells none."""
    if kind == "name":
        return word if is_name(word) else None
    if kind == "key":
        return word if is_key(word) else None
    number = integer_told(MOST_FIGURES, word)
    if kind == "number":
        return number if is_within(0, GREATEST, number) else None
    return number if is_worth(number) else None


def told_mark(mark):
    """A worth or a number as a line tells it."""
    return "none" if mark is None else str(mark)


def told_pairs(pairs):
    """Pairs as a line tells them."""
    return told_row([f"{name}={told_mark(mark)}" for name, mark in pairs])


def told_row(words):
    """Words with blanks between, "none" for no words."""
    return " ".join(words) if words else "none"
