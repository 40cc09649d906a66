"""Plays by point 13, written apart from the package: led step by step over a store beside plain dicts, with programs
run by the test's own hands; and a judge of accounts, word by word."""

from wholecommits.judges import Dealing
from wholecommits.store import new_store
from wholecommits.tongue import Program
from tests.dealing_rules import row_of, ties_of
from tests.log_rules import pages_in, written
from tests.store_rules import Beside, opened_behind_cut
from tests.test_dealings import plain_history
from tests.things import plain_integer, plain_lot
from tests.tongue_rules import Plain, drawn_program_block, is_end, run_due


class Client:

    def __init__(self, program, tries):
        self.program = program
        self.tries = tries
        self.end = "on"
        self.fresh()

    def fresh(self):
        self.plain = Plain(self.program)
        self.number = None
        self.told = []

    def loses(self, word):
        if self.tries > 0:
            self.tries -= 1
            self.fresh()
        else:
            self.end = word


class Led:
    """A play that is led over a store beside plain dicts."""

    def __init__(self, case, blocks, ring, play):
        self.case = case
        self.beside = Beside(case, new_store(blocks, ring), [{}], {})
        self.clients = [Client(program, play[2]) for program in play[0]]
        self.commits = []
        self.forced = []
        self.cuts = []
        self.refused = []
        self.gone = set()
        for step in play[1]:
            self.step(*step)

    def step(self, word, what=None):
        beside = self.beside
        if word in ("go", "soon"):
            if self.clients[what].end == "on":
                self.go(what, self.clients[what], word == "soon")
        elif word == "out":
            dirty = pages_in(written(beside.disk))[2]
            if dirty:
                beside.write_out(dirty[what % len(dirty)])
        elif word == "reach":
            block = what % beside.disk.blocks()
            if block in beside.disk.waiting():
                beside.disk.reach(block)
        elif word == "cut":
            self.cut(what)
        else:
            {"force": beside.force, "vacuum": beside.vacuum, "check": beside.checkpoint}[word]()

    def go(self, at, client, soon):
        beside = self.beside
        if client.number is None:
            client.number = beside.begin()
        number = client.number
        ask = client.plain.ask
        if not is_end(ask):
            answer = self.answer(number, *ask)
            client.told.append((ask, answer))
            client.plain.give(answer)
            return
        if ask[0] != "over":
            beside.abort(number)
            client.end = ask[0]
            return
        one = beside.open[number]
        commit = beside.last() + 1 if one.marks else None
        ring, _ = beside.ring_due(number, one.row(commit))
        came = beside.commit(number, soon)
        if came == "done":
            client.end = "over"
            if commit is not None and beside.lasting() >= commit:
                self.forced.append(len(self.commits))
            dealing = Dealing(one.snapshot, commit, tuple(sorted(one.keys)), tuple(sorted(one.ranges)),
                              tuple(sorted(one.marks.items())))
            self.commits.append((at, dealing, tuple(client.told)))
            return
        beside.abort(number)
        if came == "Refused":
            self.refused.append((at, ring))
            client.loses("refused")
        else:
            client.end = "full"

    def answer(self, number, word, *parts):
        beside = self.beside
        state = beside.open[number].state
        if word == "range":
            beside.between(number, *parts)
            return tuple(sorted(pair for pair in state.items() if parts[0] <= pair[0] <= parts[1]))
        answer = state.get(parts[0]) if word == "get" else None
        {"get": beside.get, "put": beside.put, "drop": beside.drop}[word](number, *parts)
        return answer

    def cut(self, lot):
        disk = self.beside.disk
        for block in lot:
            while block in disk.waiting():
                disk.reach(block)
        self.beside = opened_behind_cut(self.beside)
        last = self.beside.last()
        for client in self.clients:
            if client.end == "on" and client.number is not None:
                client.loses("lost")
        gone = [at for at, row in enumerate(self.commits) if at not in self.gone and place_of(row[1]) > last]
        self.gone |= set(gone)
        self.cuts.append((len(self.commits), last, tuple(gone)))

    def account(self):
        self.beside.compare()
        return {"commits": [(*row, at not in self.gone) for at, row in enumerate(self.commits)],
                "forced": tuple(self.forced), "cuts": self.cuts, "refused": self.refused,
                "ends": tuple(client.end for client in self.clients),
                "said": tuple(tuple(client.plain.said) for client in self.clients),
                "state": self.beside.dicts[-1]}


def place_of(dealing):
    return dealing.snapshot if dealing.number is None else dealing.number


def is_right(play, account):
    """The judgement of an account, word by word."""
    if type(account) is not dict:
        return False
    if not {"commits", "forced", "cuts", "refused", "ends", "said", "state"} <= set(account):
        return False
    rows, cuts, forced = account["commits"], account["cuts"], account["forced"]
    if type(rows) is not list or type(cuts) is not list or type(account["state"]) is not dict:
        return False
    for row in rows:
        if type(row) is not tuple or len(row) != 4:
            return False
        client, dealing, told, stands = row
        if not plain_integer(client, 0, len(play[0]) - 1) or type(dealing) is not Dealing or type(told) is not tuple:
            return False
        if type(stands) is not bool or not all(type(pair) is tuple and len(pair) == 2 for pair in told):
            return False
    if not plain_lot(forced, len(rows)):
        return False
    ahead = 0
    gone = set()
    for row in cuts:
        if type(row) is not tuple or len(row) != 3:
            return False
        many, last, lot = row
        if not plain_integer(many, ahead, len(rows)) or not plain_integer(last, 0, 10 ** 60):
            return False
        due = [at for at in range(many) if at not in gone and place_of(rows[at][1]) > last]
        if not plain_lot(lot, len(rows)) or list(lot) != due:
            return False
        gone |= set(due)
        ahead = many
    if set(forced) & gone or any(row[3] == (at in gone) for at, row in enumerate(rows)):
        return False
    return runs_right(play, [row for row in rows if row[3]], account["state"])


def runs_right(play, rows, end):
    history = tuple(row[1] for row in rows)
    if plain_history(history) is not None:
        return False
    ties = ties_of({at: row_of(dealing) for at, dealing in enumerate(history)})
    state = {}
    rest = set(ties)
    while rest:
        free = [at for at in rest if not any(at in ties[other] for other in rest)]
        if not free:
            return False
        at = min(free)
        rest.remove(at)
        (word, _, state), told = run_due(play[0][rows[at][0]], state)
        if word != "over" or told != rows[at][2]:
            return False
    return state == end


# drawn plays

NAMES = ["n", "x"]


def some_transaction(draw, keys):
    """A program's block that reads and writes a few keys, as a rule without being wrong."""
    def key():
        return ("key", draw.choice(keys))

    def number():
        return draw.choice([("num", draw.randrange(-2, 5)), ("+", ("*", ("=", ("name", "x"), ("num", 1)), ("num", 3)),
                                                             ("num", 1))])
    block = []
    for _ in range(draw.randrange(1, 6)):
        word = draw.choice("get get add put put drop for say if fail while".split())
        if word == "get":
            block.append(("get", draw.choice(NAMES), key()))
        elif word == "add":
            one = key()
            block += [("get", "n", one), ("if", ("=", ("name", "n"), ("name", "q")), (("let", "n", ("num", 0)),), ()),
                      ("put", one, ("+", ("name", "n"), ("num", 1)))]
        elif word == "put":
            block.append(("put", key(), number()))
        elif word == "drop":
            block.append(("drop", key()))
        elif word == "for":
            block.append(("for", "k", "w", key(), key(),
                          (draw.choice([("say", ("name", "w")), ("drop", ("name", "k")),
                                        ("put", ("name", "k"), ("not", ("name", "w")))]),)))
        elif word == "say":
            block.append(("say", ("name", draw.choice(NAMES))))
        elif word == "if":
            block.append(("if", ("=", ("name", "n"), number()), (("put", key(), number()),), (("get", "x", key()),)))
        elif word == "while":
            block.append(("while", ("num", 1), draw.randrange(1, 4), (("put", key(), number()),)))
        elif draw.random() < 0.2:
            block.append(("fail",))
    return tuple(block)


def drawn_play(draw, steps, keys="abcd"):
    """A play with steps of all kinds."""
    programs = []
    for _ in range(draw.randrange(1, 7)):
        block = drawn_program_block(draw, 4) if draw.random() < 0.15 else some_transaction(draw, list(keys))
        programs.append(Program(block))
    kinds = draw.choice(["go go go go soon soon soon out reach force vacuum check cut",
                         "go go go soon soon", "soon soon soon soon soon soon soon soon reach reach out cut",
                         "go soon go soon go soon cut"]).split()
    return tuple(programs), tuple(drawn_step(draw, draw.choice(kinds),
                                             len(programs)) for _ in range(steps)), draw.randrange(4)


def drawn_step(draw, word, clients):
    if word in ("go", "soon"):
        return word, draw.randrange(clients)
    if word in ("out", "reach"):
        return word, draw.choice([0, 1, 2, 3, 7, 26, 100, 10 ** 18])
    if word == "cut":
        lot = draw.choice([[], [], range(700), [0, 1, 2], draw.sample(range(40), 10), [10 ** 18]])
        return word, tuple(sorted(lot))
    return (word,)
