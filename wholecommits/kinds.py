"""What the values are that the package is led by: each function judges any object."""

GREATEST = 10 ** 18
GREATEST_ITEM = 10 ** 30
LONGEST_WORD = 12
LONGEST_CONTENT = 40


def is_integer(thing):
    """Whether it is an integer; flags are none."""
    return isinstance(thing, int) and not isinstance(thing, bool)


def is_within(low, high, thing):
    """Whether it is an integer from low to high, both counted."""
    return is_integer(thing) and low <= thing <= high


def is_number(thing):
    """Whether it is an integer from 0 on."""
    return is_integer(thing) and thing >= 0


def is_word(thing):
    """Whether it is a string of at most 12 letters a to z, perhaps empty."""
    if not isinstance(thing, str) or len(thing) > LONGEST_WORD:
        return False
    return all(["a" <= sign <= "z" for sign in thing])


def is_key(thing):
    """Whether it is a key."""
    return is_word(thing) and thing != ""


def is_worth(thing):
    """Whether it is a worth."""
    return is_within(-GREATEST, GREATEST, thing)


def is_mark(thing):
    """Whether it is a worth, or None for what is gone."""
    return thing is None or is_worth(thing)


def is_tuple(many, thing):
    """Whether it is a tuple of so many."""
    return isinstance(thing, tuple) and len(thing) == many


def is_tuple_of(judge, thing):
    """Whether it is a tuple of what a function judges to be right."""
    return isinstance(thing, tuple) and all([judge(item) for item in thing])


def is_ascending(row):
    """Whether each one is less than the next."""
    return all([row[at] < row[at + 1] for at in range(len(row) - 1)])


def is_keys(thing):
    """Whether it is an ascending tuple of keys."""
    return is_tuple_of(is_key, thing) and is_ascending(thing)


def is_range(thing):
    """Whether it is a triple (low, high, own) of a range that was seen but for its own keys."""
    if not is_tuple(3, thing):
        return False
    low, high, own = thing
    if not is_key(low) or not is_key(high) or low > high:
        return False
    return is_keys(own) and all([low <= key <= high for key in own])


def is_ranges(thing):
    """Whether it is an ascending tuple of ranges that were seen."""
    return is_tuple_of(is_range, thing) and is_ascending(thing)


def is_write(thing):
    """Whether it is a pair of a key and a mark."""
    return is_tuple(2, thing) and is_key(thing[0]) and is_mark(thing[1])


def is_writes(thing):
    """Whether it is a tuple of pairs of a key and a mark, the keys ascending."""
    return is_tuple_of(is_write, thing) and is_ascending([row[0] for row in thing])


def is_spot(thing):
    """Whether it is a pair of a key and a number of a spot."""
    return is_tuple(2, thing) and is_key(thing[0]) and is_within(-GREATEST, GREATEST, thing[1])


def is_commit(thing):
    """Whether it can be the number of a commit."""
    return is_within(1, GREATEST, thing)


def is_version(thing):
    """Whether it is a pair of the number of a commit and a mark."""
    return is_tuple(2, thing) and is_commit(thing[0]) and is_mark(thing[1])


def is_snapshot(thing):
    """Whether it can be a snapshot: the number of a commit, or 0."""
    return is_within(0, GREATEST, thing)


def is_changes(thing):
    """Whether it is a dict from keys to marks."""
    if not isinstance(thing, dict):
        return False
    return all([is_key(key) and is_mark(thing[key]) for key in thing])


def is_item(thing):
    """Whether it is an item of a block."""
    return is_word(thing) or is_within(-GREATEST_ITEM, GREATEST_ITEM, thing)


def is_row(low, high, thing):
    """Whether it is a tuple of so many items."""
    if not isinstance(thing, tuple) or not low <= len(thing) <= high:
        return False
    return all([is_item(item) for item in thing])


def is_content(thing):
    """Whether it is a content of a block; notes of batches are of the same kind."""
    return is_row(0, LONGEST_CONTENT, thing)


def is_lot_below(bound, thing):
    """Whether it is an ascending tuple of numbers below a bound, each once."""
    if not isinstance(thing, tuple):
        return False
    least = 0
    for number in thing:
        if not is_within(least, bound - 1, number):
            return False
        least = number + 1
    return True
