"""The rules of the tree (5.1) and of its changes (5.2), read off the pages apart from the package's own functions."""

from tests.things import plain_mark, plain_spot


class Leaf:
    """A leaf: its page and its pairs (spot, mark)."""

    def __init__(self, page, rows):
        self.page = page
        self.rows = rows

    def shape(self):
        return [spot for spot, _ in self.rows]


class Inner:
    """An inner page: its page, its fences and its children."""

    def __init__(self, page, fences, rows):
        self.page = page
        self.fences = fences
        self.rows = rows

    def shape(self):
        return tuple(child.shape() for child in self.rows)


def read_node(batch, page):
    """The node of a page, whose form is asserted."""
    items = batch.get(page)
    if items[0] == "leaf":
        assert len(items) % 4 == 1, items
        rows = []
        for at in range(1, len(items), 4):
            spot = items[at:at + 2]
            there, worth = items[at + 2:at + 4]
            assert plain_spot(spot) and plain_mark(worth), items
            assert there == 1 or (there, worth) == (0, 0), items
            rows.append((spot, worth if there else None))
        return Leaf(page, rows)
    assert items[0] == "inner" and len(items) % 3 == 2, items
    fences = [items[at:at + 2] for at in range(2, len(items), 3)]
    children = [read_node(batch, child) for child in items[1::3]]
    assert all(plain_spot(fence) for fence in fences), items
    return Inner(page, fences, children)


def nodes_of(node):
    """All nodes of a tree with how deep they lie, the root being 1 deep."""
    found = [(node, 1)]
    if isinstance(node, Inner):
        for child in node.rows:
            found += [(inner, deep + 1) for inner, deep in nodes_of(child)]
    return found


def spots_beneath(node):
    return [spot for leaf, _ in nodes_of(node) if isinstance(leaf, Leaf) for spot, _ in leaf.rows]


def check_rules(batch):
    """Assert all rules of 5.1; returns the triples, the lot of the pages and the depth, as the pages tell them."""
    if batch.root() == 0:
        return [], (), 0
    root = read_node(batch, batch.root())
    nodes = nodes_of(root)
    for node, _ in nodes:
        least = 4
        if node is root:
            least = 1 if isinstance(node, Leaf) else 2
        assert least <= len(node.rows) <= 8, node.shape()
        if isinstance(node, Inner):
            for at, fence in enumerate(node.fences):
                assert all(spot < fence for spot in spots_beneath(node.rows[at]))
                assert all(spot >= fence for spot in spots_beneath(node.rows[at + 1]))
    spots = spots_beneath(root)
    assert all(one < other for one, other in zip(spots, spots[1:]))
    depths = {deep for node, deep in nodes if isinstance(node, Leaf)}
    assert len(depths) == 1, depths
    pages = sorted(node.page for node, _ in nodes)
    assert len(set(pages)) == len(pages)
    triples = [(*spot, mark) for node, _ in nodes if isinstance(node, Leaf) for spot, mark in node.rows]
    return triples, tuple(pages), depths.pop()


def shape_of(batch):
    """The tree as nested tuples, its leaves being lists of spots; None of an empty one."""
    return None if batch.root() == 0 else read_node(batch, batch.root()).shape()


def shape_behind_put(batch, spot):
    """The shape that the tree is to have when a spot is put."""
    if batch.root() == 0:
        return [spot]
    parts = parts_behind_put(read_node(batch, batch.root()), spot)
    return parts[0] if len(parts) == 1 else tuple(parts)


def parts_behind_put(node, spot):
    if isinstance(node, Leaf):
        rows = sorted({*node.shape(), spot})
    else:
        at = len([fence for fence in node.fences if fence <= spot])
        shapes = [child.shape() for child in node.rows]
        rows = (*shapes[:at], *parts_behind_put(node.rows[at], spot), *shapes[at + 1:])
    return [rows] if len(rows) <= 8 else [rows[:4], rows[4:]]


def shape_behind_take(batch, spot):
    """The shape that the tree is to have when a spot, that is there, is taken."""
    shape = without(shape_of(batch), spot)
    if shape == []:
        return None
    return shape[0] if isinstance(shape, tuple) and len(shape) == 1 else shape


def without(shape, spot):
    if isinstance(shape, list):
        return [other for other in shape if other != spot]
    at = [index for index, child in enumerate(shape) if holds(child, spot)][0]
    rows = list(shape)
    rows[at] = without(shape[at], spot)
    if len(rows[at]) < 4:
        if at > 0 and len(rows[at - 1]) > 4:
            rows[at - 1], rows[at] = rows[at - 1][:-1], rows[at - 1][-1:] + rows[at]
        elif at + 1 < len(rows) and len(rows[at + 1]) > 4:
            rows[at], rows[at + 1] = rows[at] + rows[at + 1][:1], rows[at + 1][1:]
        else:
            left = max(at - 1, 0)
            rows[left:left + 2] = [rows[left] + rows[left + 1]]
    return tuple(rows)


def holds(shape, spot):
    if isinstance(shape, list):
        return spot in shape
    return any(holds(child, spot) for child in shape)
