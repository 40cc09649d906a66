"""What committed transactions leave, and judges of their histories: which orders are serial, and what are rings."""

from wholecommits.demands import demand_key
from wholecommits.errors import BadDealing, BadHistory, NoIndex, NoNumber, NoOrder, NotSerial, TooMany
from wholecommits.kinds import is_integer, is_keys, is_number, is_ranges, is_within, is_writes
from wholecommits.ties import is_tied, ring_from, saw_key

MOST_DEALINGS = 300
MOST_COUNTED = 14


class Dealing:
    """What a committed transaction leaves: where it stood, its number, what it has seen and what it wrote."""

    def __init__(self, snapshot, number, gets, ranges, writes):
        if not is_number(snapshot):
            raise BadDealing("snapshot")
        if not is_number_for(snapshot, writes, number):
            raise BadDealing("number")
        if not is_keys(gets):
            raise BadDealing("gets")
        if not is_ranges(ranges):
            raise BadDealing("ranges")
        if not is_writes(writes):
            raise BadDealing("writes")
        self.snapshot = snapshot
        self.number = number
        self.gets = gets
        self.ranges = ranges
        self.writes = writes

    def __eq__(self, other):
        return (isinstance(other, Dealing) and self.snapshot == other.snapshot and self.number == other.number
                and self.gets == other.gets and self.ranges == other.ranges and self.writes == other.writes)


def sees(history, index, key):
    """The number of the commit whose version of a key a dealing has seen, or would see; 0 for none."""
    demand_place(history, index, key)
    return number_at(numbers_of(history).get(key, []), history[index].snapshot)


def has_seen(history, index, key):
    """Whether a key is one that a dealing has seen."""
    demand_place(history, index, key)
    return saw_key(history[index], key)


def is_serial_order(history, thing):
    """Whether a thing is a serial order of a history."""
    demand_history(history)
    return is_order(history, thing) and failure_in(history, thing) is None


def first_failure(history, order):
    """The pair of the index and the key at which an order falls, None if it is serial."""
    demand_order(history, order)
    return failure_in(history, order)


def ties(history):
    """The ascending list of the pairs of indexes with a tie from the one to the other."""
    demand_history(history)
    return [(one, other) for one, others in enumerate(ways_of(history)) for other in others]


def serial_order(history):
    """The first of the serial orders, None if there is none."""
    demand_history(history)
    ways = ways_of(history)
    needs = [0] * len(ways)
    for others in ways:
        for other in others:
            needs[other] += 1
    order = []
    while len(order) < len(ways):
        free = [index for index in range(len(ways)) if needs[index] == 0]
        if not free:
            return None
        order.append(free[0])
        # One that stands in the order is free no more: no tie leads to it from what comes later.
        needs[free[0]] = -1
        for other in ways[free[0]]:
            needs[other] -= 1
    return tuple(order)


def is_ring(history, thing):
    """Whether a thing is a ring of indexes of a history."""
    demand_history(history)
    if not is_row_of_indexes(history, thing) or len(thing) < 2:
        return False
    return all([is_tied(history[thing[at - 1]], history[thing[at]]) for at in range(len(thing))])


def ring(history):
    """The first of the shortest rings of indexes, None if there is none."""
    if serial_order(history) is not None:
        return None
    ways = ways_of(history)
    best = None
    for index in range(len(ways)):
        found = ring_from(index, ways)
        if found is not None and (best is None or len(found) < len(best)):
            best = found
    return best


def many_orders(history):
    """How many serial orders there are, of at most 14 dealings."""
    demand_history(history)
    if len(history) > MOST_COUNTED:
        raise TooMany(MOST_COUNTED)
    needs = [0] * len(history)
    for one, other in ties(history):
        needs[other] |= 1 << one
    # A number stands for the dealings whose bits it has; many tells in how many orders just these can be the first.
    all_sets = 1 << len(history)
    many = [1] + [0] * (all_sets - 1)
    for ahead in range(all_sets):
        for index, need in enumerate(needs):
            if ahead & (1 << index) == 0 and ahead & need == need:
                many[ahead | (1 << index)] += many[ahead]
    return many[-1]


def worths_behind(history, order):
    """The dict from keys to worths that the writes of a serial order leave."""
    demand_order(history, order)
    if failure_in(history, order) is not None:
        raise NotSerial()
    marks = {}
    for index in order:
        marks.update(dict(history[index].writes))
    return {key: marks[key] for key in marks if marks[key] is not None}


def prefix(history, number):
    """The history of the writing ones up to a number and the lookers whose snapshot is not greater."""
    demand_history(history)
    if not is_number(number):
        raise NoNumber()
    return tuple([dealing for dealing in history if placed_at(dealing) <= number])


def lost_updates(history):
    """The ascending list of the pairs of indexes of which the other writes over the one without having seen it."""
    demand_history(history)
    found = []
    for one, first in enumerate(history):
        for other, second in enumerate(history):
            if is_lost(first, second):
                found.append((one, other))
    return found


def is_number_for(snapshot, writes, thing):
    """Whether it can be the number of a dealing with this snapshot and what is passed as its writes."""
    if thing is None:
        return not isinstance(writes, tuple) or writes == ()
    return is_integer(thing) and thing > snapshot and writes != ()


def demand_history(thing):
    """Raise BadHistory for what is no history."""
    if not isinstance(thing, tuple) or len(thing) > MOST_DEALINGS:
        raise BadHistory(-1)
    last = 0
    for index, dealing in enumerate(thing):
        if not isinstance(dealing, Dealing) or dealing.snapshot > last:
            raise BadHistory(index)
        if dealing.number is not None:
            last += 1
            if dealing.number != last:
                raise BadHistory(index)


def demand_place(history, index, key):
    """Raise BadHistory, then NoIndex, then NoKey for what is none."""
    demand_history(history)
    if not is_within(0, len(history) - 1, index):
        raise NoIndex()
    demand_key(key)


def demand_order(history, order):
    """Raise BadHistory, then NoOrder for what is none."""
    demand_history(history)
    if not is_order(history, order):
        raise NoOrder()


def is_row_of_indexes(history, thing):
    """Whether it is a tuple of indexes of a history, each at most once."""
    if not isinstance(thing, tuple):
        return False
    if not all([is_within(0, len(history) - 1, index) for index in thing]):
        return False
    return len(set(thing)) == len(thing)


def is_order(history, thing):
    """Whether it is an order of a history."""
    return is_row_of_indexes(history, thing) and len(thing) == len(history)


def numbers_of(history):
    """The dict from the keys that are written to the ascending lists of the numbers of the dealings that write them."""
    numbers = {}
    for dealing in history:
        for key, _ in dealing.writes:
            numbers.setdefault(key, []).append(dealing.number)
    return numbers


def number_at(numbers, snapshot):
    """The greatest of these numbers up to a snapshot, 0 if there is none."""
    return max([number for number in numbers if number <= snapshot], default=0)


def failure_in(history, order):
    """The pair of the index and the key at which an order falls when it is run, None if it is serial."""
    numbers = numbers_of(history)
    standing = {}
    for index in order:
        key = failing_key(history[index], numbers, standing)
        if key is not None:
            return index, key
        for key, _ in history[index].writes:
            standing[key] = history[index].number
    return None


def failing_key(dealing, numbers, standing):
    """The first key at which a dealing may not be run over what is standing, None if there is none."""
    # A key that nobody writes has 0 at all places, so it can not be the one.
    for key in sorted(numbers):
        if saw_key(dealing, key) and standing.get(key, 0) != number_at(numbers[key], dealing.snapshot):
            return key
    for key, _ in dealing.writes:
        if standing.get(key, 0) > dealing.number:
            return key
    return None


def ways_of(history):
    """The list of the ascending lists of the indexes to which ties lead from each index."""
    ways = []
    for one, first in enumerate(history):
        ways.append([other for other, second in enumerate(history) if other != one and is_tied(first, second)])
    return ways


def placed_at(dealing):
    """The number of a writing dealing, the snapshot of a looker."""
    if dealing.number is None:
        return dealing.snapshot
    return dealing.number


def is_lost(first, second):
    """Whether the second dealing overwrites a key without having stood behind the first one, which wrote it, too."""
    if first.number is None or second.number is None:
        return False
    if not second.snapshot < first.number < second.number:
        return False
    return any([row[0] == other[0] for row in first.writes for other in second.writes])
