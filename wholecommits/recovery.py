"""What lies on a disk means: all is told by a copy of it, so that the disk stays as it is."""

from wholecommits.disk import Disk
from wholecommits.errors import BadDisk
from wholecommits.kinds import GREATEST
from wholecommits.pages import Pages
from wholecommits.tree import is_sound
from wholecommits.versions import dict_at


def pages_of(disk):
    """The dict from all pages below high to their items, by what lies there alone."""
    pages = opened_copy(disk)
    return {page: pages.held(page) for page in range(pages.high())}


def meaning(disk):
    """The dict from keys to worths that the newest versions tell, by what lies there alone."""
    batch = opened_copy(disk).batch()
    if not is_sound(batch):
        raise BadDisk()
    return dict_at(batch, GREATEST)


def prefix_of(disk):
    """The list of the pairs (number, note) of the log's records that count, by what lies there alone."""
    return opened_copy(disk).notes()


def commits_of(disk):
    """The number of the last commit, by what lies there alone."""
    return opened_copy(disk).batch().last()


def opened_copy(disk):
    """The pages of a copy of a disk, on which nothing waits: BadDisk for what is none."""
    if not isinstance(disk, Disk):
        raise BadDisk()
    return Pages(disk.copy())
