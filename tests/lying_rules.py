"""What lies on a disk means, read off its blocks by the tests alone."""

from tests.log_rules import batch_told, lying, pages_in, prefix_in


def pages_lying(disk):
    """The dict from all pages below high to their items."""
    items = pages_in(lying(disk))[0]
    return dict(enumerate(items[:items[0][2]]))


def notes_lying(disk):
    return [(number, batch_told(record)[0]) for number, record in prefix_in(lying(disk))[0]]


def last_lying(disk):
    return pages_lying(disk)[0][4]


def versions_lying(disk):
    """The dict from the pairs (key, commit) to marks of all versions in the tree."""
    pages = pages_lying(disk)
    found = {}
    rest = [pages[0][3]] if pages[0][3] else []
    while rest:
        items = pages[rest.pop()]
        if items[0] == "inner":
            rest += items[1::3]
            continue
        assert items[0] == "leaf", items
        for at in range(1, len(items), 4):
            key, number, there, worth = items[at:at + 4]
            assert (key, -number) not in found
            found[key, -number] = worth if there else None
    return found


def dict_lying(disk):
    """The dict from keys to worths that the newest versions tell."""
    newest = {}
    for (key, commit), mark in sorted(versions_lying(disk).items(), key=lambda row: row[0][1]):
        newest[key] = mark
    return {key: mark for key, mark in newest.items() if mark is not None}
