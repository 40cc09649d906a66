"""Whether the pages of a batch hold a sound tree: nothing is taken for granted of what they hold."""

from wholecommits.errors import NoPage
from wholecommits.kinds import is_ascending, is_spot, is_worth
from wholecommits.nodes import LEAST, MOST, rows_of

LOWEST = ("a", -10 ** 18)
BEYOND = ("zzzzzzzzzzzz", 10 ** 18 + 1)


def node_items(batch, thing):
    """The items of a leaf or an inner page, None for what is neither."""
    try:
        items = batch.get(thing)
    except NoPage:
        return None
    if items[:1] in (("leaf",), ("inner",)):
        return items
    return None


def children_told(items):
    """The list of what stands in a leaf or an inner page where children stand, whatever it is."""
    if items[0] == "leaf":
        return []
    return list(items[1::3])


def is_leaf_form(items):
    """Whether a leaf's items are spots and marks."""
    if len(items) % 4 != 1:
        return False
    for at in range(1, len(items), 4):
        key, number, there, worth = items[at:at + 4]
        if not is_spot((key, number)):
            return False
        if not (there == 1 and is_worth(worth)) and not (there == 0 and worth == 0):
            return False
    return True


def is_inner_form(items):
    """Whether an inner page's items are children and fences; the children are not looked at."""
    if len(items) % 3 != 2:
        return False
    return all([is_spot((items[at], items[at + 1])) for at in range(2, len(items), 3)])


def is_leaf_sound(low, high, items):
    """Whether a leaf is sound whose spots are to be from low on and below high."""
    if not is_leaf_form(items):
        return False
    spots = [row[0] for row in rows_of(items)]
    return is_ascending([*spots, high]) and low <= spots[0]


def is_inner_sound(low, high, items):
    """Whether an inner page is sound beneath which all spots are to be from low on and below high."""
    if not is_inner_form(items):
        return False
    # As something stands beneath each child, the fences stand apart from one another and from the bounds.
    return is_ascending([low, *[row[0] for row in rows_of(items)[1:]], high])


def is_filled(fewest_spots, fewest_children, items):
    """Whether a leaf has enough spots, or an inner page enough children, and neither too many."""
    if items[0] == "leaf":
        return 4 * fewest_spots < len(items) <= 4 * MOST + 1
    return 3 * fewest_children - 1 <= len(items) <= 3 * MOST - 1


def bounded_children(low, high, items):
    """The list of the triples (child, low, high) of a sound inner page, with the bounds of what stands beneath."""
    rows = rows_of(items, low)
    ends = [*[row[0] for row in rows[1:]], high]
    return [(row[1], row[0], end) for row, end in zip(rows, ends)]


def is_tree_sound(batch):
    """Whether the tree of a batch keeps all rules, looked at level by level from the root on."""
    level = [(batch.root(), LOWEST, BEYOND)]
    if batch.root() == 0:
        return True
    met = {}
    fewest = (1, 2)
    while level:
        met_kinds = {}
        beneath = []
        for page, low, high in level:
            items = node_items(batch, page)
            if items is None or page in met or not is_filled(fewest[0], fewest[1], items):
                return False
            met[page] = True
            met_kinds[items[0]] = True
            if items[0] == "leaf" and not is_leaf_sound(low, high, items):
                return False
            if items[0] == "inner":
                if not is_inner_sound(low, high, items):
                    return False
                beneath.extend(bounded_children(low, high, items))
        if len(met_kinds) > 1:
            return False
        level = beneath
        fewest = (LEAST, LEAST)
    return True
