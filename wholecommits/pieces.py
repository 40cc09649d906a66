"""How a log lies on a disk: its master, the pieces of its records, and which of them count."""

from wholecommits.disk import Disk
from wholecommits.errors import BadDisk
from wholecommits.kinds import GREATEST_ITEM, is_number, is_within

PIECE_SIZE = 36
MOST_ITEMS = 6000
FEWEST_RING = 4
BLOCKS_BESIDE_RING = 8


def is_ring(blocks, thing):
    """Whether a log on a disk of so many blocks can have such a ring."""
    return is_within(FEWEST_RING, blocks - BLOCKS_BESIDE_RING, thing)


def master_of(disk):
    """The master that is read on a disk: BadDisk if there is none."""
    if not isinstance(disk, Disk):
        raise BadDisk()
    master = disk.read(0)
    if len(master) != 6 or master[0] != "master":
        raise BadDisk()
    if not all([is_number(item) for item in master[1:]]) or not is_ring(disk.blocks(), master[2]):
        raise BadDisk()
    # An opening has to write an epoch that is one more.
    if master[1] >= GREATEST_ITEM:
        raise BadDisk()
    return master


def piece_count(record):
    """How many pieces a record is cut into."""
    return (len(record) + PIECE_SIZE - 1) // PIECE_SIZE


def pieces_of(start, epoch, number, record):
    """The contents of the log's blocks, from the one of the running number start on, that hold a record."""
    many = piece_count(record)
    pieces = []
    for at in range(many):
        part = record[at * PIECE_SIZE:(at + 1) * PIECE_SIZE]
        pieces.append((start + at, epoch, number, many - 1 - at) + part)
    return pieces


def is_piece(content):
    """Whether a content of a block has the form of a piece."""
    return len(content) > 4 and all([is_number(item) for item in content[:4]])


def follows(ahead, piece):
    """Whether a piece is one that may come next behind another one, but for its block."""
    _, epoch, number, left = ahead[:4]
    if left > 0:
        return piece[1:4] == (epoch, number, left - 1)
    return piece[2] == number + 1 and piece[1] >= epoch


def counted(disk, master):
    """The list of the pieces that count, as they are read on the disk."""
    _, newest, ring, start, number, first = master
    pieces = []
    for block in range(start, start + ring):
        piece = disk.read(1 + block % ring)
        if not is_piece(piece) or piece[0] != block or piece[1] > newest:
            break
        if pieces and not follows(pieces[-1], piece):
            break
        if not pieces and (piece[2] != number or piece[1] < first):
            break
        pieces.append(piece)
    return pieces


def whole_records(pieces):
    """The list of the triples (epoch, running number of the first block, record) of the records that are whole."""
    rows = []
    items = ()
    for piece in pieces:
        items = items + piece[4:]
        if piece[3] == 0:
            rows.append((piece[1], piece[0] + 1 - piece_count(items), items))
            items = ()
    return rows
