"""The fewest full nodes of stretches of entries, and how such stretches are joined."""

from logtrees.checks import MOST_ENTRIES, check_span, is_between, is_list_of
from logtrees.errors import InvalidBounds
from logtrees.shapes import nodes_within

MOST_BOUNDS = 12

# A power of two beyond all ends: its tree has every full node that a stretch can have, and no edges.
FULL_SIZE = 1 << 100


def compact(begin, end):
    """List the fewest full nodes that make up the entries from begin to end - 1, ascending."""
    check_span(MOST_ENTRIES, begin, end)
    return nodes_within(FULL_SIZE, begin, end)


def compact_count(begin, end):
    """Return how many full nodes it takes at least to make up the entries from begin to end - 1."""
    return len(compact(begin, end))


def greatest(begin, end):
    """Return the one of the fewest full nodes that has most entries, of equal ones the first."""
    return max(compact(begin, end), key=lambda node: node[1] - node[0])


def _check_bounds(bounds):
    """Raise InvalidBounds unless the value is a list of bounds."""
    if not is_list_of(bounds, 2, MOST_BOUNDS):
        raise InvalidBounds(None)
    least = 0
    for item, bound in enumerate(bounds):
        if not is_between(bound, least, MOST_ENTRIES):
            raise InvalidBounds(item)
        least = bound + 1


def join_sums(bounds):
    """Return how many sums it takes to join the stretches between neighbouring bounds."""
    _check_bounds(bounds)
    apart = sum([compact_count(begin, end) for begin, end in zip(bounds, bounds[1:])])
    # Each sum makes one node of two, whatever is joined first.
    return apart - compact_count(bounds[0], bounds[-1])
