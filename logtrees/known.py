"""Which nodes are known from some nodes, which are missing for the root, and which ones are needless."""

from logtrees.checks import check_nodes, check_size
from logtrees.shapes import nodes_beside, nodes_within


def joined(stretches):
    """List the fewest stretches with the same entries as some that may overlap, ascending."""
    found = []
    for begin, end in sorted(stretches):
        if found and begin <= found[-1][1]:
            first, last = found.pop()
            found.append((first, max(last, end)))
        else:
            found.append((begin, end))
    return found


def _check(size, nodes):
    """Raise InvalidSize or InvalidNodes unless the values are a size and a list of nodes of its tree."""
    check_size(size)
    check_nodes(size, nodes)


def gives_root(size, nodes):
    """Tell whether the root comes from the nodes."""
    _check(size, nodes)
    return joined(nodes) == [(0, size)]


def known_tops(size, nodes):
    """List the greatest nodes that are known from the nodes, ascending."""
    _check(size, nodes)
    # What a node covers it also knows at last, so the stretches that are covered together tell all.
    return [top for begin, end in joined(nodes) for top in nodes_within(size, begin, end)]


def missing(size, nodes):
    """List the fewest nodes without entries of the given ones that give the root together with them, ascending."""
    _check(size, nodes)
    return nodes_beside(size, nodes)


def _lies_within(node, stretches):
    """Tell whether all entries of a node are those of one of some stretches."""
    begin, end = node
    return any([first <= begin and end <= last for first, last in stretches])


def needless(size, nodes):
    """List the indexes of all nodes, each of which has only entries of the others, ascending."""
    _check(size, nodes)
    found = []
    for index, node in enumerate(nodes):
        others = nodes[:index] + nodes[index + 1:]
        if _lies_within(node, joined(others)):
            found.append(index)
    return found
