"""Histories as texts: a line for each dealing, then one for each thing that it saw and that it wrote."""

from wholecommits.errors import BadDealing, BadText
from wholecommits.figures import integer_told
from wholecommits.judges import Dealing, demand_history
from wholecommits.kinds import is_key, is_worth

MOST_FIGURES = 20
RANKS = {"deal": 0, "saw": 1, "range": 2, "put": 3, "drop": 3}


class Deal:
    """What the lines of a dealing tell: the line on which it begins, and for each rank the list of what was told."""

    def __init__(self, line, snapshot, number):
        self.line = line
        self.snapshot = snapshot
        self.number = number
        self.rank = 0
        self.told = ([], [], [], [])

    def takes(self, rank, thing):
        """Take what a line of this rank tells; whether such a line can stand there."""
        rows = self.told[rank]
        if rank < self.rank or (rows and not is_behind(rank, rows[-1], thing)):
            return False
        self.rank = rank
        rows.append(thing)
        return True

    def dealing(self):
        """The dealing: BadText with its line if the parts are none of a dealing."""
        try:
            return Dealing(self.snapshot, self.number, tuple(self.told[1]), tuple(self.told[2]), tuple(self.told[3]))
        except BadDealing:
            raise BadText(self.line) from None


def history_text(history):
    """The text of a history."""
    demand_history(history)
    lines = []
    for dealing in history:
        number = "-" if dealing.number is None else dealing.number
        lines.append(f"deal {dealing.snapshot} {number}")
        lines.extend([f"saw {key}" for key in dealing.gets])
        for low, high, own in dealing.ranges:
            words = ["range", low, high]
            if own:
                words.extend(["but", *own])
            lines.append(" ".join(words))
        for key, worth in dealing.writes:
            lines.append(f"drop {key}" if worth is None else f"put {key} {worth}")
    return "".join([line + "\n" for line in lines])


def read_history(text):
    """The history that a text tells."""
    if not isinstance(text, str):
        raise BadText(0)
    lines = text.split("\n")
    deals = []
    for at, line in enumerate(lines[:-1]):
        words = line.split(" ")
        rank = RANKS.get(words[0], -1)
        told = told_by(words)
        if told is None or (rank > 0 and (not deals or not deals[-1].takes(rank, told))):
            raise BadText(at + 1)
        if rank == 0:
            deals.append(Deal(at + 1, told[0], told[1]))
    if lines[-1] != "":
        raise BadText(len(lines))
    history = tuple([deal.dealing() for deal in deals])
    demand_history(history)
    return history


def told_by(words):
    """What the words of a line tell, None if they have none of the forms."""
    if words[0] == "deal":
        return deal_told(words[1:])
    if words[0] == "saw":
        return words[1] if len(words) == 2 and is_key(words[1]) else None
    if words[0] == "range":
        return range_told(words[1:])
    if words[0] == "put" and len(words) == 3:
        return write_told(words[1], integer_told(MOST_FIGURES, words[2]))
    if words[0] == "drop" and len(words) == 2 and is_key(words[1]):
        return words[1], None
    return None


def deal_told(words):
    """The pair of a snapshot and a number, or None, that two words tell."""
    if len(words) != 2:
        return None
    snapshot = integer_told(MOST_FIGURES, words[0])
    number = integer_told(MOST_FIGURES, words[1])
    if snapshot is None or snapshot < 0:
        return None
    if words[1] == "-":
        return snapshot, None
    if number is None or number < 0:
        return None
    return snapshot, number


def range_told(words):
    """The triple of a range that words tell; whether its keys stand as they have to is not asked."""
    own = words[3:]
    if len(words) < 2 or not all([is_key(key) for key in [*words[:2], *own]]):
        return None
    if len(words) > 2 and (words[2] != "but" or not own):
        return None
    return words[0], words[1], tuple(own)


def write_told(key, worth):
    """The pair of a key and a worth, if both are some."""
    if not is_key(key) or not is_worth(worth):
        return None
    return key, worth


def is_behind(rank, ahead, thing):
    """Whether what a line tells comes behind what another one of the same rank tells."""
    if rank == RANKS["put"]:
        return ahead[0] < thing[0]
    return ahead < thing
