"""Plays: clients that run programs over one store, step by step, with cuts; and judges of the accounts of plays."""

from wholecommits.accounts import gone_by_cuts, is_account, newly_gone
from wholecommits.errors import BadHistory, NoPlay, NoRoom, Refused, TooLarge
from wholecommits.judges import serial_order
from wholecommits.kinds import GREATEST, is_lot_below, is_tuple, is_within
from wholecommits.running import ENDS, Hand, lead
from wholecommits.store import Store, new_store
from wholecommits.tongue import Program

MOST_CLIENTS = 6
MOST_STEPS = 400
MOST_TRIES = 5


class Client:
    """A client: its hand, the number of its transaction, if one is under way, and what that was told."""

    def __init__(self, program, tries):
        self.program = program
        self.tries_left = tries
        self.word = "on"
        self.begin_try()

    def begin_try(self):
        """Let its program stand at the first ask, over no transaction yet."""
        self.hand = Hand(self.program)
        self.number = None
        self.told = []

    def lose(self, word):
        """Begin anew, or be at its end by this word, its transaction having been refused or lost."""
        if self.tries_left == 0:
            self.word = word
        else:
            self.tries_left -= 1
            self.begin_try()

    def is_under_way(self):
        """Whether it has a transaction that is open."""
        return self.word == "on" and self.number is not None


class Playing:
    """A play under way: the store, the clients, and what the account is to tell."""

    def __init__(self, store, programs, tries):
        self.store = store
        self.clients = [Client(program, tries) for program in programs]
        self.rows = []
        self.forced_rows = []
        self.cut_rows = []
        self.gone = {}
        self.refusals = []

    def step(self, deed):
        """Do a step of the schedule."""
        word = deed[0]
        store = self.store
        if word in ("go", "soon"):
            self.client_step(deed[1], word == "soon")
        elif word == "out":
            dirty = store.dirty()
            if dirty:
                store.write_out(dirty[deed[1] % len(dirty)])
        elif word == "reach":
            block = deed[1] % store.disk().blocks()
            if block in store.disk().waiting():
                store.disk().reach(block)
        elif word == "force":
            store.force()
        elif word == "vacuum":
            self.clean()
        elif word == "check":
            store.checkpoint()
        else:
            self.cut(deed[1])

    def client_step(self, which, is_soon):
        """Let a client do what its hand asks, or come to the end that it tells."""
        client = self.clients[which]
        if client.word != "on":
            return
        if client.number is None:
            client.number = self.store.begin()
        ask = client.hand.asks()
        if ask[0] == "over":
            self.commit(which, is_soon)
        elif ask[0] in ENDS:
            self.store.abort(client.number)
            client.word = ask[0]
        else:
            answer = store_answer(self.store, client.number, ask)
            client.hand.give(answer)
            client.told.append((ask, answer))

    def commit(self, which, is_soon):
        """Commit the transaction of a client whose program is over."""
        client = self.clients[which]
        made = self.store.open_one(client.number)
        try:
            done = self.store.commit_soon(client.number) if is_soon else self.store.commit(client.number)
        except Refused as refusal:
            self.refusals.append((which, refusal.ring))
            self.store.abort(client.number)
            client.lose("refused")
            return
        except (TooLarge, NoRoom):
            self.store.abort(client.number)
            client.word = "full"
            return
        client.word = "over"
        if done is not None and self.store.lasting() >= done:
            self.forced_rows.append(len(self.rows))
        self.rows.append((which, made.dealing(done), tuple(client.told)))

    def clean(self):
        """Take all that nobody can read any more, as far as the records of it are not too large."""
        try:
            self.store.vacuum()
        except TooLarge:
            pass

    def cut(self, lot):
        """Let what waits for these blocks reach the disk, and nothing else; then open the store anew."""
        disk = self.store.disk()
        disk.force(tuple([block for block in lot if block < disk.blocks()]))
        disk.cut()
        self.store = Store(disk)
        for client in self.clients:
            if client.is_under_way():
                client.lose("lost")
        last = self.store.last()
        lot_gone = newly_gone(self.rows, len(self.rows), last, self.gone)
        for index in lot_gone:
            self.gone[index] = True
        self.cut_rows.append((len(self.rows), last, lot_gone))

    def account(self):
        """The account of the play."""
        return {
            "commits": [(*row, index not in self.gone) for index, row in enumerate(self.rows)],
            "forced": tuple(self.forced_rows),
            "cuts": list(self.cut_rows),
            "refused": list(self.refusals),
            "ends": tuple([client.word for client in self.clients]),
            "said": tuple([client.hand.said() for client in self.clients]),
            "state": self.store.now(),
        }


def played(blocks, ring, play):
    """The account of a play over a new store."""
    store = new_store(blocks, ring)
    demand_play(play)
    programs, schedule, tries = play
    playing = Playing(store, programs, tries)
    for step in schedule:
        playing.step(step)
    return playing.account()


def is_right_account(play, account):
    """Whether an account of a play hangs together."""
    if not is_account(len(play[0]), account):
        return False
    rows = account["commits"]
    gone = gone_by_cuts(rows, account["cuts"])
    if gone is None or any([index in gone for index in account["forced"]]):
        return False
    if any([row[3] == (index in gone) for index, row in enumerate(rows)]):
        return False
    standing = [row for row in rows if row[3]]
    try:
        order = serial_order(tuple([row[1] for row in standing]))
    except BadHistory:
        return False
    if order is None:
        return False
    return leads_to(play[0], [standing[index] for index in order], account["state"])


def leads_to(programs, rows, state):
    """Whether the programs, run alone one behind another over a dict, ask what was told and lead to a state."""
    worths = {}
    for row in rows:
        hand = Hand(programs[row[0]])
        if tuple(lead(hand, worths)) != row[2] or hand.asks() != ("over",):
            return False
    return worths == state


def store_answer(store, number, ask):
    """Do what a hand asks in an open transaction of the store; returns the answer, that of a range as a tuple."""
    if ask[0] == "get":
        return store.get(number, ask[1])
    if ask[0] == "range":
        return tuple(store.between(number, ask[1], ask[2]))
    if ask[0] == "put":
        store.put(number, ask[1], ask[2])
    else:
        store.drop(number, ask[1])
    return None


def demand_play(thing):
    """Raise NoPlay for what is no play."""
    if not is_tuple(3, thing) or not is_programs(thing[0]):
        raise NoPlay("programs")
    if not isinstance(thing[1], tuple) or len(thing[1]) > MOST_STEPS:
        raise NoPlay("schedule")
    if not is_within(0, MOST_TRIES, thing[2]):
        raise NoPlay("tries")
    for index, step in enumerate(thing[1]):
        if not is_step(len(thing[0]), step):
            raise NoPlay(index)


def is_programs(thing):
    """Whether it is a tuple of 1 to 6 programs."""
    if not isinstance(thing, tuple) or not 1 <= len(thing) <= MOST_CLIENTS:
        return False
    return all([isinstance(program, Program) for program in thing])


def is_step(clients, thing):
    """Whether it is a step of a schedule for so many clients."""
    if is_tuple(1, thing):
        return thing[0] in ("force", "vacuum", "check")
    if not is_tuple(2, thing):
        return False
    if thing[0] in ("go", "soon"):
        return is_within(0, clients - 1, thing[1])
    if thing[0] in ("out", "reach"):
        return is_within(0, GREATEST, thing[1])
    return thing[0] == "cut" and is_lot_below(GREATEST + 1, thing[1])
