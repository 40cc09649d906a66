"""A disk of blocks whose writes wait in a cache until they reach it."""

from wholecommits.errors import BadDisk, NoBlock, NoContent, NoNumber, NothingWaits, Stopped
from wholecommits.kinds import is_content, is_lot_below, is_within

FEWEST_BLOCKS = 16
MOST_BLOCKS = 600
MOST_POWER = 10 ** 6


class Disk:
    """Blocks with contents, and for each of them the row of the writes that wait."""

    def __init__(self, blocks):
        if not is_within(FEWEST_BLOCKS, MOST_BLOCKS, blocks):
            raise BadDisk()
        self.contents = [()] * blocks
        self.cached = {}
        self.left = None
        self.arrived = 0

    def blocks(self):
        """How many blocks there are."""
        return len(self.contents)

    def write(self, block, content):
        """Let a content wait behind all that waits for the block."""
        self.demand_block(block)
        if not is_content(content):
            raise NoContent()
        self.cached.setdefault(block, []).append(content)

    def read(self, block):
        """What was written last, whether it has reached the disk or not."""
        self.demand_block(block)
        if block in self.cached:
            return self.cached[block][-1]
        return self.contents[block]

    def reach(self, block):
        """Let the eldest write that waits for the block reach the disk."""
        self.demand_block(block)
        if block not in self.cached:
            raise NothingWaits()
        self.let_reach(block)

    def force(self, lot):
        """Let all that waits for these blocks reach the disk."""
        if not is_lot_below(self.blocks(), lot):
            raise NoBlock()
        for block in lot:
            while block in self.cached:
                self.let_reach(block)

    def calm(self):
        """Let all that waits reach the disk."""
        self.force(tuple(sorted(self.cached)))

    def power(self, many):
        """Let so many further writes reach the disk and no more; any number for None."""
        if many is not None and not is_within(0, MOST_POWER, many):
            raise NoNumber()
        self.left = many

    def cut(self):
        """Lose all that waits; then power is there again."""
        self.cached = {}
        self.left = None

    def waiting(self):
        """The dict from blocks for which something waits to how much."""
        return {block: len(self.cached[block]) for block in sorted(self.cached)}

    def lying(self, block):
        """The content that lies on the disk."""
        self.demand_block(block)
        return self.contents[block]

    def reached(self):
        """How many writes have reached the disk."""
        return self.arrived

    def copy(self):
        """Another disk on which the same lies."""
        other = Disk(self.blocks())
        other.contents = list(self.contents)
        return other

    def demand_block(self, block):
        """Raise NoBlock for what is no block."""
        if not is_within(0, self.blocks() - 1, block):
            raise NoBlock()

    def let_reach(self, block):
        """Let the eldest of the writes that wait for the block, of which there is one, reach the disk."""
        if self.left == 0:
            raise Stopped()
        if self.left is not None:
            self.left -= 1
        self.contents[block] = self.cached[block].pop(0)
        if not self.cached[block]:
            del self.cached[block]
        self.arrived += 1
