"""The form of the accounts of plays, and which commits their cuts make go."""

from wholecommits.judges import Dealing, placed_at
from wholecommits.kinds import is_lot_below, is_number, is_tuple, is_tuple_of, is_within

PARTS_OF_ACCOUNT = ("commits", "forced", "cuts", "refused", "ends", "said", "state")


def is_account(clients, thing):
    """Whether it is a dict with the parts of an account of so many clients; refused, ends, said are not looked at."""
    if not isinstance(thing, dict) or not all([part in thing for part in PARTS_OF_ACCOUNT]):
        return False
    rows = thing["commits"]
    if not isinstance(rows, list) or not all([is_commit_row(clients, row) for row in rows]):
        return False
    cuts = thing["cuts"]
    if not isinstance(cuts, list) or not all([is_cut_row(len(rows), row) for row in cuts]):
        return False
    if not all([cuts[at][0] <= cuts[at + 1][0] for at in range(len(cuts) - 1)]):
        return False
    return is_lot_below(len(rows), thing["forced"]) and isinstance(thing["state"], dict)


def is_commit_row(clients, thing):
    """Whether it is a quadruple of a client, a dealing, pairs of asks and answers, and whether it stands."""
    if not is_tuple(4, thing):
        return False
    client, dealing, told, stands = thing
    if not is_within(0, clients - 1, client) or not isinstance(dealing, Dealing) or not isinstance(stands, bool):
        return False
    return is_tuple_of(is_pair, told)


def is_pair(thing):
    """Whether it is a pair."""
    return is_tuple(2, thing)


def is_cut_row(commits, thing):
    """Whether it is a triple of a cut behind at most so many commits."""
    if not is_tuple(3, thing):
        return False
    return is_within(0, commits, thing[0]) and is_number(thing[1]) and is_lot_below(commits, thing[2])


def newly_gone(rows, many, last, gone):
    """The lot of those of the first so many commits that a cut makes go, with the last number left behind it."""
    return tuple([index for index in range(many) if index not in gone and placed_at(rows[index][1]) > last])


def gone_by_cuts(rows, cuts):
    """The dict, to True, of the commits that are gone by the cuts, None if a cut tells others than are gone by it."""
    gone = {}
    for many, last, lot in cuts:
        if newly_gone(rows, many, last, gone) != lot:
            return None
        for index in lot:
            gone[index] = True
    return gone
