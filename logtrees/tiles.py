"""How the full nodes of a tree lie in tiles of a fixed height."""

from logtrees.checks import check_height, check_nodes, check_number_from, check_older, check_size
from logtrees.compact import compact


def _kept_counts(size, height):
    """List for each level that has tiles how many full nodes they keep."""
    counts = []
    count = size
    while count > 0:
        counts.append(count)
        count = count >> height
    return counts


def _tiles_for(count, height):
    """Return how many tiles it takes to keep so many nodes of one level."""
    return ((count - 1) >> height) + 1


def tile_count(size, height):
    """Return the tuple of the numbers of all tiles and of those with the greatest width."""
    check_size(size)
    check_height(height)
    counts = _kept_counts(size, height)
    return (sum([_tiles_for(count, height) for count in counts]), sum([count >> height for count in counts]))


def tile_width(size, height, level, number):
    """Return how many full nodes of tree(size) a tile keeps."""
    check_size(size)
    check_height(height)
    check_number_from(level, 0)
    check_number_from(number, 0)
    counts = _kept_counts(size, height)
    if level >= len(counts):
        return 0
    left = counts[level] - (number << height)
    return max(0, min(left, 1 << height))


def _tile_of(height, node):
    """Return the tile from whose nodes a full node comes."""
    begin, end = node
    level = ((end - begin).bit_length() - 1) // height
    return (level, begin >> ((level + 1) * height))


def tiles_of(size, height, nodes):
    """List the tiles from which nodes of tree(size) come, ascending."""
    check_size(size)
    check_height(height)
    check_nodes(size, nodes)
    # The fewest full nodes within a node are the node itself or, for an edge, the peaks within it.
    full = [part for begin, end in nodes for part in compact(begin, end)]
    return sorted({_tile_of(height, part) for part in full})


def changed_tiles(size, height, older):
    """Return how many tiles of tree(size) have another width in tree(older)."""
    check_size(size)
    check_height(height)
    check_older(size, older)
    changed = 0
    for level, count in enumerate(_kept_counts(size, height)):
        before = older >> (level * height)
        if count > before:
            # All tiles but those that were full before get more nodes.
            changed += _tiles_for(count, height) - (before >> height)
    return changed
