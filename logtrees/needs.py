"""Which nodes are needed beside the leaves of some entries, so that the root comes from all of them."""

from logtrees.checks import check_size, check_spans
from logtrees.depths import depth_sum
from logtrees.shapes import nodes_beside


def needed(size, spans):
    """List the nodes without entries of spans whose parent has some, ascending."""
    check_size(size)
    check_spans(size, spans)
    # A needed node lies beside the spans, its parent does not: so it is one of the greatest there.
    return nodes_beside(size, spans)


def needed_count(size, spans):
    """Return how many nodes are needed for spans."""
    return len(needed(size, spans))


def needed_both(size, spans, others):
    """Return how many nodes are needed both for spans and for others, each by itself."""
    return len(set(needed(size, spans)) & set(needed(size, others)))


def spared(size, spans):
    """Return the sum of the depths of the entries of spans less the number of needed nodes."""
    count = needed_count(size, spans)
    return sum([depth_sum(size, first, end) for first, end in spans]) - count
