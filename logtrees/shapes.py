"""The shape of tree(size): its peaks, edges and nodes, and how many of them there are."""

from logtrees.checks import check_node, check_number, check_size, is_tree_node


def power_within(number):
    """Return the greatest power of two that is at most a number from 1."""
    return 1 << (number.bit_length() - 1)


def _first_full(begin, end):
    """Return the greatest full node that begins where a stretch begins and lies within it."""
    room = power_within(end - begin)
    # Every power of two divides 0, so there the end alone limits the node.
    if begin > 0:
        room = min(room, begin & -begin)
    return (begin, begin + room)


def nodes_within(size, begin, end):
    """List the greatest nodes of tree(size) within a stretch of its entries, ascending; none if it is empty."""
    found = []
    while begin < end:
        # Only an edge can be greater than the full node, and an edge ends where the log does.
        if is_tree_node(size, (begin, end)):
            node = (begin, end)
        else:
            node = _first_full(begin, end)
        found.append(node)
        begin = node[1]
    return found


def nodes_beside(size, stretches):
    """List the greatest nodes of tree(size) without entries of some stretches, which may overlap, ascending."""
    found = []
    behind = 0
    for begin, end in sorted(stretches):
        found.extend(nodes_within(size, behind, begin))
        behind = max(behind, end)
    found.extend(nodes_within(size, behind, size))
    return found


def peaks(size):
    """List the nodes that one gets by cutting the entries into the powers of two of the size, the greatest first."""
    check_size(size)
    found = []
    begin = 0
    while begin < size:
        end = begin + power_within(size - begin)
        found.append((begin, end))
        begin = end
    return found


def edges(size):
    """List the nodes of tree(size) that are not full, the greatest first."""
    return [(begin, size) for begin, _ in peaks(size)[:-1]]


def is_node(size, value):
    """Tell whether any value is a node of tree(size)."""
    check_size(size)
    return is_tree_node(size, value)


def halves(size, node):
    """Return the tuple of both halves of a node, None for a leaf."""
    check_size(size)
    check_node(size, node)
    begin, end = node
    if end - begin == 1:
        return None
    middle = begin + power_within(end - begin - 1)
    return ((begin, middle), (middle, end))


def parent(size, node):
    """Return the node that has the given one as a half, None for the root."""
    check_size(size)
    check_node(size, node)
    if node == (0, size):
        return None
    begin, end = node
    first, last = begin, end
    room = 1 << (end - begin - 1).bit_length()
    # Where the log's end cuts a node short, more room alone may leave it as it is.
    while (first, last) == (begin, end):
        room = room * 2
        first = begin - begin % room
        last = min(first + room, size)
    return (first, last)


def sibling(size, node):
    """Return the other half of a node's parent, None for the root."""
    above = parent(size, node)
    if above is None:
        return None
    low, high = halves(size, above)
    if node == low:
        return high
    return low


def node_count(size):
    """Return the tuple of the numbers of full nodes and of edges."""
    cut = len(edges(size))
    # A tree in which each node has two halves or none has one node less than twice its leaves.
    return (2 * size - 1 - cut, cut)


def common_count(size, other):
    """Return how many nodes tree(size) and tree(other) have in common."""
    check_size(size)
    check_size(other)
    full, cut = node_count(min(size, other))
    if size == other:
        return full + cut
    # Full nodes stay in all later trees, an edge is in one tree alone.
    return full


def height_count(size, number):
    """Return how many nodes of tree(size) have a height, 0 for heights that none has."""
    check_size(size)
    check_number(number)
    # The bound keeps the shift below small, whatever number is asked for.
    if number < 0 or number > size.bit_length():
        return 0
    if number == 0:
        return size
    # With room for 2 ** (number - 1) entries each, so many nodes stand side by side; two of them make one higher.
    beside = ((size - 1) >> (number - 1)) + 1
    return beside // 2
