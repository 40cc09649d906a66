"""Ties between dealings, and rings of ties.

The ways of a row of dealings tell for each of them, by its number or its index, the list of those to which ties lead
from it.
"""


def writes_key(dealing, key):
    """Whether a dealing writes a key."""
    return any([row[0] == key for row in dealing.writes])


def saw_key(dealing, key):
    """Whether a dealing has seen a key, by itself or in a range."""
    if key in dealing.gets:
        return True
    return any([low <= key <= high and key not in own for low, high, own in dealing.ranges])


def is_tied(one, other):
    """Whether there is a tie from the one to the other of two dealings."""
    for key, _ in one.writes:
        if writes_key(other, key) and one.number < other.number:
            return True
        if one.number <= other.snapshot and saw_key(other, key):
            return True
    return any([other.number > one.snapshot and saw_key(one, key) for key, _ in other.writes])


def ring_from(start, ways):
    """The first of the shortest rings that begin with this one, None if there is none."""
    met = {start: True}
    # The paths ascend, and each one met first is met by the first of its shortest paths: so the first to close a ring
    # closes the first of the shortest.
    paths = [(start,)]
    while paths:
        longer = []
        for path in paths:
            for other in sorted(ways[path[-1]]):
                if other == start:
                    return path
                if other not in met:
                    met[other] = True
                    longer.append((*path, other))
        paths = longer
    return None


def reached_from(starts, ways):
    """The dict, to True, of those to which ties lead in some steps, or none, from one of the starts."""
    met = {}
    rest = list(starts)
    while rest:
        one = rest.pop()
        if one not in met:
            met[one] = True
            rest.extend(ways[one])
    return met
