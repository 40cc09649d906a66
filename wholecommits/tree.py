"""An ordered tree in the pages of a batch: a map from spots to marks."""

from wholecommits.errors import NoMark, NoRoom, NoSpot, NotThere
from wholecommits.kinds import is_mark, is_spot
from wholecommits.nodes import LEAST, MOST, child_place, items_of, rows_of, with_row, without_row
from wholecommits.pages import Batch
from wholecommits.soundness import BEYOND, LOWEST, children_told, is_tree_sound, node_items


def look(batch, spot):
    """The pair (True, mark) of a spot, (False, None) where there is none."""
    demand_spot(spot)
    if batch.root() == 0:
        return False, None
    _, leaf = way_to(batch, spot)
    for at, mark in rows_of(batch.get(leaf)):
        if at == spot:
            return True, mark
    return False, None


def put(batch, spot, mark):
    """Let a spot have this mark."""
    demand_spot(spot)
    if not is_mark(mark):
        raise NoMark()
    if batch.root() == 0:
        page = batch.take_page()
        batch.put(page, items_of("leaf", [(spot, mark)]))
        batch.set_root(page)
        return
    way, page = way_to(batch, spot)
    rows = with_row(rows_of(batch.get(page)), spot, mark)
    # All pages are taken ahead of the first change, so that no tree is left half parted where there is no room.
    fresh = fresh_pages(batch, partings(batch, way, rows))
    kind = "leaf"
    while len(rows) > MOST:
        right = fresh.pop(0)
        batch.put(page, items_of(kind, rows[:LEAST]))
        batch.put(right, items_of(kind, rows[LEAST:]))
        fence = rows[LEAST][0]
        kind = "inner"
        if way:
            page, place = way.pop()
            rows = rows_of(batch.get(page))
            rows.insert(place + 1, (fence, right))
        else:
            rows = [(None, page), (fence, right)]
            page = fresh.pop(0)
            batch.set_root(page)
    batch.put(page, items_of(kind, rows))


def take(batch, spot):
    """Let a spot go."""
    demand_spot(spot)
    if batch.root() == 0:
        raise NotThere()
    way, page = way_to(batch, spot)
    rows = rows_of(batch.get(page))
    rest = without_row(rows, spot)
    if len(rest) == len(rows):
        raise NotThere()
    batch.put(page, items_of("leaf", rest))
    few = len(rest) < LEAST
    while way and few:
        parent, place = way.pop()
        few = mend(batch, parent, place)
    settle_root(batch)


def first_from(batch, spot):
    """The triple (key, number, mark) of the least spot that is not less, or None."""
    demand_spot(spot)
    page = batch.root()
    later = 0
    while page != 0:
        items = batch.get(page)
        rows = rows_of(items)
        if items[0] == "leaf":
            for at, mark in rows:
                if at >= spot:
                    return at[0], at[1], mark
            page = later
            later = 0
        else:
            place = child_place(rows, spot)
            if place + 1 < len(rows):
                later = rows[place + 1][1]
            page = rows[place][1]
    return None


def walk(batch, low, high):
    """The ascending list of the triples of all spots from low on and below high."""
    demand_spot(low)
    demand_spot(high)
    return triples_between(batch, low, high)


def all_spots(batch):
    """The ascending list of the triples of all spots."""
    return triples_between(batch, LOWEST, BEYOND)


def depth(batch):
    """On how many pages the way to a leaf leads."""
    met = {}
    rest = [batch.root()]
    while rest and rest[0] not in met and node_items(batch, rest[0]) is not None:
        met[rest[0]] = True
        rest = children_told(batch.get(rest[0]))
    return len(met)


def pages_of(batch):
    """The lot of the pages of the tree."""
    met = {}
    rest = [batch.root()]
    while rest:
        page = rest.pop()
        items = node_items(batch, page)
        if items is not None and page not in met:
            met[page] = True
            rest.extend(children_told(items))
    return tuple(sorted(met))


def is_sound(batch):
    """Whether the tree keeps all rules; what is no batch has none."""
    return isinstance(batch, Batch) and is_tree_sound(batch)


def demand_spot(thing):
    """Raise NoSpot for what is no spot."""
    if not is_spot(thing):
        raise NoSpot()


def way_to(batch, spot):
    """The way to a spot's leaf, a list of the pairs (inner page, place of the child) from the root on, and the leaf."""
    way = []
    page = batch.root()
    items = batch.get(page)
    while items[0] == "inner":
        rows = rows_of(items)
        place = child_place(rows, spot)
        way.append((page, place))
        page = rows[place][1]
        items = batch.get(page)
    return way, page


def triples_between(batch, low, high):
    """The ascending list of the triples of all spots from low on and below high, which may be beyond all spots."""
    found = []
    rest = [batch.root()]
    if low >= high or rest == [0]:
        return found
    while rest:
        items = batch.get(rest.pop())
        rows = rows_of(items)
        if items[0] == "leaf":
            found.extend([(row[0][0], row[0][1], row[1]) for row in rows if low <= row[0] < high])
        else:
            within = rows[child_place(rows, low):child_place(rows, high) + 1]
            rest.extend([row[1] for row in reversed(within)])
    return found


def partings(batch, way, rows):
    """How many pages must be taken when a leaf at the end of the way is to have these rows."""
    if len(rows) <= MOST:
        return 0
    many = 1
    for page, _ in reversed(way):
        if len(children_told(batch.get(page))) < MOST:
            return many
        many += 1
    return many + 1


def fresh_pages(batch, many):
    """The list of so many pages that are taken; none is, where there are fewer."""
    pages = []
    for _ in range(many):
        try:
            pages.append(batch.take_page())
        except NoRoom:
            for page in reversed(pages):
                batch.give_page(page)
            raise
    return pages


def mend(batch, parent, place):
    """Fill up the child at this place of an inner page, or join it; returns whether the parent has too few then."""
    rows = rows_of(batch.get(parent))
    if place > 0 and len(child_rows(batch, rows, place - 1)) > LEAST:
        part_anew(batch, parent, place - 1, -1)
        return False
    if place + 1 < len(rows) and len(child_rows(batch, rows, place + 1)) > LEAST:
        part_anew(batch, parent, place, 1)
        return False
    join(batch, parent, max(place - 1, 0))
    return len(rows) - 1 < LEAST


def child_rows(batch, rows, place):
    """The rows of the child at this place, the first one of an inner page with the fence that the parent has."""
    fence, page = rows[place]
    return rows_of(batch.get(page), fence)


def part_anew(batch, parent, place, shift):
    """Let the child at this place have so many more rows from the next one, or so many fewer."""
    rows = rows_of(batch.get(parent))
    left = rows[place][1]
    right = rows[place + 1][1]
    kind = batch.get(left)[0]
    ahead = child_rows(batch, rows, place)
    both = ahead + child_rows(batch, rows, place + 1)
    cut = len(ahead) + shift
    batch.put(left, items_of(kind, both[:cut]))
    batch.put(right, items_of(kind, both[cut:]))
    rows[place + 1] = (both[cut][0], right)
    batch.put(parent, items_of("inner", rows))


def join(batch, parent, place):
    """Join the child at this place with the next one, whose page is given back."""
    rows = rows_of(batch.get(parent))
    left = rows[place][1]
    kind = batch.get(left)[0]
    both = child_rows(batch, rows, place) + child_rows(batch, rows, place + 1)
    batch.put(left, items_of(kind, both))
    batch.give_page(rows[place + 1][1])
    del rows[place + 1]
    batch.put(parent, items_of("inner", rows))


def settle_root(batch):
    """Let a root without spots, or with one child alone, go."""
    root = batch.root()
    items = batch.get(root)
    if items == ("leaf",):
        batch.set_root(0)
        batch.give_page(root)
    elif items[0] == "inner" and len(items) == 2:
        batch.set_root(items[1])
        batch.give_page(root)
