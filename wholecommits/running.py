"""Programs under way: hands, which ask for what they read and write, and programs run alone over a dict."""

from wholecommits.errors import NoAnswer, NoState, NotAsked
from wholecommits.expressions import WRONG, value_of
from wholecommits.kinds import is_ascending, is_integer, is_key, is_mark, is_tuple, is_worth

MOST_BEGUN = 5000
ENDS = ("over", "failed", "wrong", "long")


class Frame:
    """A block under way, on a path of places, and the loop whose block it is, None for one that is no loop's.

    rows are the pairs that a for goes over; rounds tells how many rounds have begun, index which statement is next.
    """

    def __init__(self, block, path, loop, rows):
        self.block = block
        self.path = path
        self.loop = loop
        self.rows = rows
        self.rounds = 0
        # Each round begins where the one ahead has ended, so the first one of a loop does.
        self.index = 0 if loop is None else len(block)

    def copied(self):
        """A frame in equal state."""
        other = Frame(self.block, self.path, self.loop, self.rows)
        other.rounds = self.rounds
        other.index = self.index
        return other


class Hand:
    """A program under way: what its names hold, what it said, what it asks by which statement, and its frames."""

    def __init__(self, program):
        self.program = program
        self.names = {}
        self.spoken = []
        self.begun = 0
        self.frames = [Frame(program.block, (), None, ())]
        self.wanted = None
        self.asker = None
        self.go_on()

    def asks(self):
        """What it wants next, or how it ended."""
        return self.wanted

    def give(self, answer):
        """Answer what it asked; it goes on to what it asks next."""
        if self.wanted[0] in ENDS:
            raise NotAsked()
        if not is_answer(self.wanted, answer):
            raise NoAnswer()
        statement, place = self.asker
        if statement[0] == "get":
            self.names[statement[1]] = answer
        if statement[0] == "for":
            self.frames.append(Frame(statement[5], (*place, 0), statement, tuple(answer)))
        self.go_on()

    def said(self):
        """The tuple of the values that it said."""
        return tuple(self.spoken)

    def copy(self):
        """A hand in equal state that goes on apart."""
        other = Hand(self.program)
        other.names = dict(self.names)
        other.spoken = list(self.spoken)
        other.begun = self.begun
        other.frames = [frame.copied() for frame in self.frames]
        other.wanted = self.wanted
        other.asker = self.asker
        return other

    def go_on(self):
        """Run until something is asked or the end has come."""
        self.wanted = None
        while self.wanted is None:
            if not self.frames:
                self.wanted = ("over",)
                return
            frame = self.frames[-1]
            if frame.index < len(frame.block):
                self.begin_next(frame)
            elif self.begins_round(frame):
                frame.rounds += 1
                frame.index = 0
            else:
                self.frames.pop()

    def counts(self):
        """Count one more of what is begun; whether it is let, the end having come otherwise."""
        if self.begun == MOST_BEGUN:
            self.wanted = ("long",)
            return False
        self.begun += 1
        return True

    def begin_next(self, frame):
        """Begin the next statement of a frame."""
        statement = frame.block[frame.index]
        place = (*frame.path, frame.index)
        if not self.counts():
            return
        frame.index += 1
        word = statement[0]
        if word == "fail":
            self.wanted = ("failed",)
        elif word == "if":
            which = 0 if self.is_so(statement[1], place) else 1
            self.frames.append(Frame(statement[2 + which], (*place, which), None, ()))
        elif word == "while":
            self.frames.append(Frame(statement[3], (*place, 0), statement, ()))
        elif word in ("let", "say"):
            self.begin_plain(statement, place)
        else:
            self.asker = (statement, place)
            self.wanted = ask_of(statement, self.names)
            if self.wanted is None:
                self.wanted = ("wrong", place)

    def begin_plain(self, statement, place):
        """Begin a let or a say."""
        value = value_of(statement[-1], self.names)
        if value == WRONG:
            self.wanted = ("wrong", place)
        elif statement[0] == "let":
            self.names[statement[1]] = value
        else:
            self.spoken.append(value)

    def begins_round(self, frame):
        """Whether another round of a frame's loop begins; one that is no loop's has none."""
        loop = frame.loop
        if loop is None:
            return False
        if loop[0] == "for":
            if frame.rounds == len(frame.rows) or not self.counts():
                return False
            key, worth = frame.rows[frame.rounds]
            self.names[loop[1]] = key
            self.names[loop[2]] = worth
            return True
        if frame.rounds == loop[2]:
            return False
        # The first look is the beginning of the statement, which was counted.
        if frame.rounds > 0 and not self.counts():
            return False
        return self.is_so(loop[1], frame.path[:-1])

    def is_so(self, expression, place):
        """Whether the integer that an expression tells is not 0; the end has come if it is none."""
        value = value_of(expression, self.names)
        if not is_integer(value):
            self.wanted = ("wrong", place)
            return False
        return value != 0


def plain_run(program, state):
    """The triple of how a program that runs alone over a dict ends, what it said, and the dict behind it."""
    if not is_state(state):
        raise NoState()
    hand = Hand(program)
    behind = dict(state)
    lead(hand, behind)
    word = hand.asks()[0]
    return word, hand.said(), behind if word == "over" else dict(state)


def lead(hand, state):
    """Lead a hand to its end over a dict, which changes; returns the list of the pairs of its asks and the answers."""
    told = []
    while hand.asks()[0] not in ENDS:
        ask = hand.asks()
        answer = answered(state, ask)
        hand.give(answer)
        told.append((ask, answer))
    return told


def answered(state, ask):
    """Do what a hand asks over a dict, which may change; returns the answer."""
    if ask[0] == "get":
        return state.get(ask[1])
    if ask[0] == "range":
        return tuple([(key, state[key]) for key in sorted(state) if ask[1] <= key <= ask[2]])
    if ask[0] == "put":
        state[ask[1]] = ask[2]
    elif ask[1] in state:
        del state[ask[1]]
    return None


def ask_of(statement, names):
    """What a get, put, drop or for asks while the names hold what a dict tells, None if it is wrong."""
    word = statement[0]
    if word == "put":
        key = value_of(statement[1], names)
        worth = value_of(statement[2], names)
        return ("put", key, worth) if is_key(key) and is_worth(worth) else None
    if word == "for":
        low = value_of(statement[3], names)
        high = value_of(statement[4], names)
        return ("range", low, high) if is_key(low) and is_key(high) else None
    key = value_of(statement[-1], names)
    return (word, key) if is_key(key) else None


def is_answer(ask, thing):
    """Whether a thing is an answer to what a hand asks."""
    if ask[0] == "get":
        return is_mark(thing)
    if ask[0] != "range":
        return True
    if not isinstance(thing, (list, tuple)) or not all([is_pair_within(ask[1], ask[2], row) for row in thing]):
        return False
    return is_ascending([row[0] for row in thing])


def is_pair_within(low, high, thing):
    """Whether it is a pair of a key from low to high and a worth."""
    return is_tuple(2, thing) and is_key(thing[0]) and low <= thing[0] <= high and is_worth(thing[1])


def is_state(thing):
    """Whether it is a dict from keys to worths."""
    return isinstance(thing, dict) and all([is_key(key) and is_worth(thing[key]) for key in thing])
