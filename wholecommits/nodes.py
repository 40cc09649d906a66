"""How the pages of a tree hold their rows.

A row of a leaf is the pair (spot, mark), one of an inner page the pair (fence, child). The first child of an inner
page has no fence there; its row has None, or the fence that the parent of the page tells, where one is passed.
"""

LEAST = 4
MOST = 8


def rows_of(items, fence=None):
    """The list of the rows that a page of a tree holds."""
    if items[0] == "leaf":
        rows = []
        for at in range(1, len(items), 4):
            key, number, there, worth = items[at:at + 4]
            rows.append(((key, number), worth if there == 1 else None))
        return rows
    rows = [(fence, items[1])]
    for at in range(2, len(items), 3):
        key, number, child = items[at:at + 3]
        rows.append(((key, number), child))
    return rows


def items_of(kind, rows):
    """The items of a page of this kind that holds the rows."""
    items = [kind]
    if kind == "leaf":
        for spot, mark in rows:
            items.extend([*spot, 0, 0] if mark is None else [*spot, 1, mark])
        return tuple(items)
    items.append(rows[0][1])
    for fence, child in rows[1:]:
        items.extend([*fence, child])
    return tuple(items)


def child_place(rows, spot):
    """The place of the child beneath which a spot stands, or would stand."""
    place = 0
    while place + 1 < len(rows) and rows[place + 1][0] <= spot:
        place += 1
    return place


def with_row(rows, spot, mark):
    """The rows of a leaf in which the spot has this mark."""
    ahead = [row for row in rows if row[0] < spot]
    behind = [row for row in rows if row[0] > spot]
    return [*ahead, (spot, mark), *behind]


def without_row(rows, spot):
    """The rows of a leaf without that of the spot."""
    return [row for row in rows if row[0] != spot]
