"""What several modules demand of what they are passed."""

from wholecommits.errors import NoKey
from wholecommits.kinds import is_key


def demand_key(thing):
    """Raise NoKey for what is no key."""
    if not is_key(thing):
        raise NoKey()
