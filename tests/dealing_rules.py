"""The rules of ties, rings and serial orders (8.2, 9), written apart from the package's own functions."""

import itertools

KEYS = ["a", "aa", "b", "c", "ca", "d", "z" * 12]


class Row:
    """What a dealing tells, with the keys that it writes as a set."""

    def __init__(self, snapshot, number, gets, ranges, writes):
        self.snapshot = snapshot
        self.number = number
        self.gets = set(gets)
        self.ranges = ranges
        self.writes = writes
        self.written = {key for key, _ in writes}

    def seen(self, key):
        return key in self.gets or any(low <= key <= high for low, high, own in self.ranges if key not in own)

    def named(self):
        keys = self.gets | self.written
        for low, high, own in self.ranges:
            keys |= {low, high, *own}
        return keys


def row_of(dealing):
    return Row(dealing.snapshot, dealing.number, dealing.gets, dealing.ranges, dealing.writes)


def tied(one, other):
    if any(one.number < other.number for _ in one.written & other.written):
        return True
    if any(one.number <= other.snapshot for key in one.written if other.seen(key)):
        return True
    return any(other.number > one.snapshot for key in other.written if one.seen(key))


def ties_of(rows):
    """The dict from the numbers (or indexes) of the rows to the sets of those to which ties lead from them."""
    return {one: {other for other in rows if other != one and tied(rows[one], rows[other])} for one in rows}


def ring_by_distance(start, ties):
    """The first of the shortest rings that begin with one: found backwards, by how far each is from it."""
    far = {start: 0}
    level = {start}
    while level:
        level = {one for one in ties if one not in far and ties[one] & level}
        far.update({one: max(far.values()) + 1 for one in level})
    lengths = [far[other] for other in ties[start] if other in far]
    if not lengths:
        return None
    ring = [start]
    for left in range(min(lengths), 0, -1):
        ring.append(min(other for other in ties[ring[-1]] if far.get(other) == left))
    return tuple(ring)


def ring_of_all(ties):
    """The first of the shortest of all rings."""
    found = [ring_by_distance(one, ties) for one in ties]
    return min((ring for ring in found if ring is not None), key=lambda ring: (len(ring), ring), default=None)


def all_rings(ties):
    """All rings, of few: by trying all tuples."""
    rings = []
    for many in range(2, len(ties) + 1):
        for ring in itertools.permutations(sorted(ties), many):
            if all(ring[at] in ties[ring[at - 1]] for at in range(many)):
                rings.append(ring)
    return rings


def failure(rows, order):
    """The pair of the row and the key at which an order falls, run over a plain dict; None if it is serial."""
    universe = sorted(set().union(*[rows[at].named() for at in order]))
    versions = {key: [rows[at].number for at in order if key in rows[at].written] for key in universe}
    state = {}
    for at in order:
        row = rows[at]
        for key in universe:
            if row.seen(key):
                wanted = max([0, *[number for number in versions[key] if number <= row.snapshot]])
                if state.get(key, 0) != wanted:
                    return at, key
        for key in sorted(row.written):
            if state.get(key, 0) > row.number:
                return at, key
        for key in row.written:
            state[key] = row.number
    return None


def serial_orders(rows):
    """The list of all serial orders of few rows, ascending."""
    return [order for order in itertools.permutations(sorted(rows)) if failure(rows, order) is None]


def drawn_keys(draw, most):
    return tuple(sorted(draw.sample(KEYS, draw.randrange(most + 1))))


def drawn_ranges(draw, most):
    ranges = set()
    for _ in range(draw.randrange(most + 1)):
        low, high = sorted([draw.choice(KEYS), draw.choice(KEYS)])
        within = [key for key in KEYS if low <= key <= high]
        ranges.add((low, high, tuple(sorted(draw.sample(within, draw.randrange(min(3, len(within) + 1)))))))
    return tuple(sorted(ranges))


def drawn_writes(draw, most):
    return tuple((key, draw.choice([None, draw.randrange(-9, 9)])) for key in drawn_keys(draw, most))
