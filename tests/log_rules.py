"""The rules of the log and of pages (2, 3), read off the blocks apart from the package's own functions."""


class Piece:
    """What a block of the log holds."""

    def __init__(self, content):
        self.block, self.epoch, self.record, self.left = content[:4]
        self.items = content[4:]


def written(disk):
    """What is read in all blocks of a disk."""
    return [disk.read(block) for block in range(disk.blocks())]


def lying(disk):
    return [disk.lying(block) for block in range(disk.blocks())]


def pieces_told(block, epoch, record, items):
    """The dict from running numbers of blocks to the contents that a record is to have there."""
    parts = [items[at:at + 36] for at in range(0, len(items), 36)]
    return {block + at: (block + at, epoch, record, len(parts) - 1 - at, *part) for at, part in enumerate(parts)}


def counting(contents):
    """The list of the pieces that count, by what stands in the blocks."""
    _, newest, ring, start, number, first = contents[0]
    found = []
    while len(found) < ring:
        at = start + len(found)
        content = contents[1 + at % ring]
        if len(content) < 5 or content[0] != at or content[1] > newest:
            break
        piece = Piece(content)
        if not found:
            right = piece.record == number and piece.epoch >= first
        elif found[-1].left == 0:
            right = piece.record == found[-1].record + 1 and piece.epoch >= found[-1].epoch
        else:
            right = (piece.record, piece.left, piece.epoch) == (found[-1].record, found[-1].left - 1, found[-1].epoch)
        if not right:
            break
        found.append(piece)
    return found


def prefix_in(contents):
    """The list of the pairs (number, record) that the blocks tell, and how many blocks these take."""
    records = {}
    many = 0
    pieces = counting(contents)
    for at, piece in enumerate(pieces):
        records.setdefault(piece.record, []).extend(piece.items)
        if piece.left == 0:
            many = at + 1
    whole = [piece.record for piece in pieces if piece.left == 0]
    return [(number, tuple(records[number])) for number in whole], many


def batch_told(record):
    """The note of a batch's record, and the dict from pages to items that it tells."""
    rest = list(record)
    note = tuple([rest.pop(0) for _ in range(rest.pop(0))])
    changes = {}
    while rest:
        page = rest.pop(0)
        changes[page] = tuple([rest.pop(0) for _ in range(rest.pop(0))])
    return note, changes


def pages_in(contents):
    """What each page holds by what stands in the blocks, () for one that was never written; the dict from the pages
    that were written to the records that told them; the lot of the dirty ones."""
    ring = contents[0][2]
    blocks = contents[ring + 1:]
    items = [content[1:] for content in blocks]
    lies = {page: content[0] for page, content in enumerate(blocks) if content}
    newest = {}
    for number, record in prefix_in(contents)[0]:
        for page, told in batch_told(record)[1].items():
            items[page] = told
            newest[page] = number
    dirty = tuple(page for page in sorted(newest) if lies.get(page) != newest[page])
    return items, {**lies, **newest}, dirty
