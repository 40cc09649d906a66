"""Vacuum: which versions someone may still read, and the taking of all others.

Asked are the open snapshots, the last one and all that are to come; these see what the last one sees, as long as no
newer versions are told. So the list of those that are asked is the open ones and the last.
"""

from wholecommits.errors import NoNumber, NoSnapshots, NoVersion, NoVersions
from wholecommits.kinds import is_integer, is_lot_below, is_snapshot, is_version, is_within
from wholecommits.versions import all_versions, take_version

MOST_SWEPT = 1000


def needed(versions, open_lot, last):
    """The lot of the commits of the versions that are needed."""
    demand_asked(versions, open_lot, last)
    return needed_at(versions, [*open_lot, last])


def is_kept_right(versions, open_lot, last, thing):
    """Whether a thing is a lot of commits whose versions alone tell all that is asked."""
    demand_asked(versions, open_lot, last)
    commits = [version[0] for version in versions]
    if not is_lot_below(last + 1, thing) or not all([commit in commits for commit in thing]):
        return False
    kept = [version for version in versions if version[0] in thing]
    return all([is_told_right(versions, kept, snapshot) for snapshot in [*open_lot, last]])


def harm(versions, open_lot, last, commit):
    """The least asked snapshot at which a read tells another version if one alone is taken, None if there is none."""
    demand_asked(versions, open_lot, last)
    if not is_integer(commit) or commit not in [version[0] for version in versions]:
        raise NoVersion()
    rest = [version for version in versions if version[0] != commit]
    for snapshot in [*open_lot, last]:
        if read_at(versions, snapshot) != read_at(rest, snapshot):
            return snapshot
    return None


def takeable(batch, open_lot, last):
    """The list of the pairs (key, commit) of the versions that are not needed, of each key the eldest first."""
    demand_snapshots(open_lot, last)
    rows = {}
    for key, commit, mark in all_versions(batch):
        rows.setdefault(key, []).append((commit, mark))
    pairs = []
    for key in rows:
        kept = needed_at(rows[key], [*open_lot, last])
        pairs.extend([(key, version[0]) for version in reversed(rows[key]) if version[0] not in kept])
    return pairs


def sweep(batch, open_lot, last, most):
    """Take the first so many versions that are not needed; returns how many."""
    demand_snapshots(open_lot, last)
    if not is_within(1, MOST_SWEPT, most):
        raise NoNumber()
    pairs = takeable(batch, open_lot, last)[:most]
    for key, commit in pairs:
        take_version(batch, key, commit)
    return len(pairs)


def demand_versions(thing):
    """Raise NoVersions for what are no versions of a key, the newest first."""
    if not isinstance(thing, (list, tuple)):
        raise NoVersions(-1)
    newer = None
    for index, version in enumerate(thing):
        if not is_version(version) or (newer is not None and version[0] >= newer):
            raise NoVersions(index)
        newer = version[0]


def demand_snapshots(open_lot, last):
    """Raise NoNumber for what is no last commit, then NoSnapshots for what is no lot of snapshots up to it."""
    if not is_snapshot(last):
        raise NoNumber()
    if not is_lot_below(last + 1, open_lot):
        raise NoSnapshots()


def demand_asked(versions, open_lot, last):
    """Raise what is wrong with versions and with what is asked of them."""
    demand_versions(versions)
    if is_snapshot(last) and versions and versions[0][0] > last:
        raise NoNumber()
    demand_snapshots(open_lot, last)


def version_at(versions, snapshot):
    """The version that a snapshot sees, None if it sees none."""
    for version in versions:
        if version[0] <= snapshot:
            return version
    return None


def read_at(versions, snapshot):
    """The version that a read tells, None if there is none or it is gone."""
    version = version_at(versions, snapshot)
    if version is None or version[1] is None:
        return None
    return version


def is_told_right(versions, kept, snapshot):
    """Whether a snapshot sees the same version of the kept ones, or none where it saw a gone one."""
    found = version_at(kept, snapshot)
    return found == version_at(versions, snapshot) or (found is None and read_at(versions, snapshot) is None)


def needed_at(versions, asked):
    """The lot of the commits of the versions that are needed at the asked snapshots."""
    seen = [version_at(versions, snapshot) for snapshot in asked]
    kept = []
    for version in reversed(versions):
        if version in seen and (version[1] is not None or kept):
            kept.append(version[0])
    return tuple(kept)
