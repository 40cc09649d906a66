"""Versions of keys in a tree: that of a commit lies at the spot (key, - commit), so the newest stands first."""

from wholecommits.demands import demand_key
from wholecommits.errors import NoChanges, NoCommit, NoSnapshot
from wholecommits.kinds import GREATEST, is_changes, is_commit, is_snapshot
from wholecommits.tree import all_spots, first_from, put, take, walk


def write_all(batch, commit, changes):
    """Let the changes, a dict from keys to marks, become versions of a commit."""
    demand_commit(commit)
    if not is_changes(changes):
        raise NoChanges()
    for key in sorted(changes):
        put(batch, (key, -commit), changes[key])


def at(batch, snapshot, key):
    """The worth of a key that a snapshot sees, or None."""
    demand_snapshot(snapshot)
    demand_key(key)
    found = first_from(batch, (key, -snapshot))
    if found is None or found[0] != key:
        return None
    return found[2]


def range_at(batch, snapshot, low, high):
    """The ascending list of the pairs (key, worth) that a snapshot sees, of the keys from low to high."""
    demand_snapshot(snapshot)
    demand_key(low)
    demand_key(high)
    return seen_at(snapshot, walk(batch, (low, -GREATEST), (high, 0)))


def versions_of(batch, key):
    """The list of the pairs (commit, mark) of a key, the newest first."""
    demand_key(key)
    return [(-triple[1], triple[2]) for triple in walk(batch, (key, -GREATEST), (key, 0))]


def take_version(batch, key, commit):
    """Let one version go."""
    demand_key(key)
    demand_commit(commit)
    take(batch, (key, -commit))


def all_versions(batch):
    """The list of the triples (key, commit, mark), keys ascending, of each key the newest first."""
    return [(key, -number, mark) for key, number, mark in all_spots(batch)]


def dict_at(batch, snapshot):
    """The dict of all that a snapshot sees."""
    demand_snapshot(snapshot)
    return dict(seen_at(snapshot, all_spots(batch)))


def seen_at(snapshot, triples):
    """The list of the pairs (key, worth) that a snapshot sees, of the versions that these triples of spots are."""
    seen = []
    settled = ""
    for key, number, mark in triples:
        if key != settled and -number <= snapshot:
            settled = key
            if mark is not None:
                seen.append((key, mark))
    return seen


def demand_commit(thing):
    """Raise NoCommit for what is no number of a commit."""
    if not is_commit(thing):
        raise NoCommit()


def demand_snapshot(thing):
    """Raise NoSnapshot for what is no number of a commit, nor 0."""
    if not is_snapshot(thing):
        raise NoSnapshot()
