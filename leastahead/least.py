"""The least look-ahead that is enough."""

from leastahead.blockgame import lost_positions
from leastahead.pairs import is_enough
from leastahead.relations import block_length


def is_some_enough(judge):
    """Return whether some look-ahead is enough."""
    return all([state != 0 for state, relation in lost_positions(judge)])


def least_ahead(judge):
    """Return the least look-ahead that is enough, None if none is."""
    if not is_some_enough(judge):
        return None
    ahead = 0
    while not is_enough(judge, ahead):
        ahead += 1
    return ahead


def ahead_bound(judge):
    """Return the look-ahead that is enough for certain, by the block length, None if none is enough."""
    if not is_some_enough(judge):
        return None
    return 2 * block_length(judge) - 1
