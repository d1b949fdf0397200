"""Which nodes show that an older log is the beginning of a newer one."""

from logtrees.checks import check_older, check_size
from logtrees.shapes import nodes_within, peaks


def older_list(size, older):
    """List the nodes from which the roots of tree(older) and tree(size) both come, the older root left out."""
    check_size(size)
    check_older(size, older)
    if older == size:
        return []
    tops = peaks(older)
    # A peak that is the only one is the older root itself, which is known.
    if len(tops) == 1:
        tops = []
    return tops + nodes_within(size, older, size)


def older_count(size, older):
    """Return how many nodes older_list has."""
    return len(older_list(size, older))


def longest_older(size):
    """Return the tuple of the greatest older_count for a size and the least older size that has it."""
    check_size(size)
    # The list has the halves of the node that are parted at the older size, and the siblings of this node and of
    # all above it. So it is longest for the parent of a deepest leaf, and entry 0 has one. But for a node that
    # begins at 0 the older root is left out, so the next node of the same depth, (2, 4), has one more.
    longest = 3 if size > 3 else 1
    return (older_count(size, longest), longest)
