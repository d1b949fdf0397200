"""What a list of nodes that somebody hands over is worth to a reader of some entries."""

from logtrees.checks import check_nodes, check_size, check_spans, is_tree_node
from logtrees.known import joined
from logtrees.needs import needed
from logtrees.shapes import nodes_beside


def shows_needed(size, spans, value):
    """Tell whether any value is a list of just the needed nodes of spans, each once, in any sequence."""
    wanted = needed(size, spans)
    if not isinstance(value, list) or not all([is_tree_node(size, item) for item in value]):
        return False
    return sorted(value) == wanted


def _check(size, spans, nodes):
    """Raise the first error of a size, spans of its log and nodes of its tree."""
    check_size(size)
    check_spans(size, spans)
    check_nodes(size, nodes)


def serves(size, spans, nodes):
    """Tell whether no node has an entry of spans and the root comes from the nodes and the leaves of spans."""
    return first_wrong(size, spans, nodes) is None and joined(spans + nodes) == [(0, size)]


def _meets(node, spans):
    """Tell whether a node has an entry of spans."""
    begin, end = node
    return any([first < end and begin < last for first, last in spans])


def first_wrong(size, spans, nodes):
    """Return the index of the first node that has an entry of spans, None if there is none."""
    _check(size, spans, nodes)
    for index, node in enumerate(nodes):
        if _meets(node, spans):
            return index
    return None


def lacking(size, spans, nodes):
    """List the fewest nodes that are lacking beside the nodes and the leaves of spans for the root, ascending."""
    _check(size, spans, nodes)
    return nodes_beside(size, spans + nodes)
