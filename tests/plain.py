"""What the tests compare the program with: points 5 to 8 of the document, word by word, and lists of values."""

from functools import lru_cache

MOST = 10 ** 30

# Sizes whose trees are small enough to be built node by node.
SMALL = range(1, 71)

# Great sizes: powers of two and those beside them, sizes with few digits 1 or 0, and others.
GREAT = sorted(
    {MOST, MOST - 1, MOST - 2, MOST // 3, 3 ** 62, 10 ** 29 + 7}
    | {2 ** power + more for power in (10, 31, 32, 33, 63, 64, 65, 98, 99) for more in (-2, -1, 0, 1, 2)}
    | {2 ** 99 + 2 ** 50, 2 ** 99 + 2 ** 50 + 1, 2 ** 98 + 2 ** 97, 2 ** 99 + 2 ** 98 + 1, 2 ** 80 + 2 ** 79 + 2}
    | {2 ** 99 - 1 - 2 ** 40, 2 ** 99 - 2 ** 98 // 2 - 1, 2 ** 90 - 2 ** 30, 2 ** 90 - 1 - 2 ** 89 // 2}
)

# No integers of point 2, and what could be taken for one.
NO_INTEGERS = [
    None, True, False, "", "3", b"3", [], [3], (), (3,), (3, 4, 5), {}, {3: 4}, {3}, [[3]], object(), int, len,
]

# Integers on both sides beyond every range, with up to 1,000 digits.
FAR_INTEGERS = [-1, -2, -(10 ** 30), 10 ** 30 + 1, 2 ** 100, 10 ** 99, -(10 ** 99), 10 ** 999, -(10 ** 999)]

NO_SIZES = NO_INTEGERS + FAR_INTEGERS + [0]


@lru_cache(maxsize=None)
def power_below(width):
    """Return the greatest power of two that is less than a width."""
    power = 1
    while 2 * power < width:
        power *= 2
    return power


def plain_halves(node):
    """Cut a node with more than one entry by the words of point 5."""
    a, b = node
    k = power_below(b - a)
    return (a, a + k), (a + k, b)


def plain_tree(size):
    """Map each node of tree(size) to its parent, the root to None."""
    parents = {(0, size): None}
    open_nodes = [(0, size)]
    while open_nodes:
        node = open_nodes.pop()
        if node[1] - node[0] > 1:
            for half in plain_halves(node):
                parents[half] = node
                open_nodes.append(half)
    return parents


def plain_height(node):
    height = 0
    while 2 ** height < node[1] - node[0]:
        height += 1
    return height


def plain_full(node):
    width = node[1] - node[0]
    return bin(width).count("1") == 1 and node[0] % width == 0


def plain_peaks(size):
    found, begin = [], 0
    for place, digit in enumerate(bin(size)[2:]):
        if digit == "1":
            width = 2 ** (len(bin(size)[2:]) - 1 - place)
            found.append((begin, begin + width))
            begin += width
    return found


def plain_line(size, entry):
    """List all nodes that have an entry, from the root to its leaf."""
    line = [(0, size)]
    while line[-1][1] - line[-1][0] > 1:
        low, high = plain_halves(line[-1])
        line.append(low if entry < low[1] else high)
    return line


def plain_depth(size, entry):
    return len(plain_line(size, entry)) - 1


def plain_path(size, entry):
    """List the siblings of the nodes that have an entry, from the leaf's on."""
    siblings = []
    for above, node in zip(plain_line(size, entry), plain_line(size, entry)[1:]):
        siblings.extend(half for half in plain_halves(above) if half != node)
    return siblings[::-1]


def plain_depth_parts(size, begin, end):
    """Cut a stretch into nodes that lie within it: a list of (node, depth of this node)."""
    parts, open_nodes = [], [((0, size), 0)]
    while open_nodes:
        node, deep = open_nodes.pop()
        if begin <= node[0] and node[1] <= end:
            parts.append((node, deep))
        elif node[0] < end and begin < node[1]:
            open_nodes.extend((half, deep + 1) for half in plain_halves(node))
    return parts


def plain_totals(width, known):
    """Return the sum, the least and the greatest of the depths below a node of a width; known keeps them."""
    if width == 1:
        return 0, 0, 0
    if width not in known:
        low, high = [plain_totals(b - a, known) for a, b in plain_halves((0, width))]
        known[width] = (low[0] + high[0] + width, min(low[1], high[1]) + 1, max(low[2], high[2]) + 1)
    return known[width]


def plain_known(size, nodes):
    """Return the set of all nodes of tree(size) that are known when just these are, by the words of point 8."""
    known = set()
    # No node is wider than its parent, so both halves have been looked at before a node is.
    for node in sorted(plain_tree(size), key=lambda node: node[1] - node[0]):
        if node in nodes or node[1] - node[0] > 1 and all(half in known for half in plain_halves(node)):
            known.add(node)
    return known


def plain_parts(root, within, beside):
    """List the greatest nodes below a root for which within(a, b) holds, and skip those for which beside(a, b) does."""
    found, open_nodes = [], [root]
    while open_nodes:
        node = open_nodes.pop()
        if within(*node):
            found.append(node)
        elif not beside(*node):
            low, high = plain_halves(node)
            open_nodes += [high, low]
    return found


def marked_entries(size):
    """List the first and the last entries of a log, and those beside its peaks."""
    found = {0, 1, 2, size // 2, size // 3, size - 3, size - 2, size - 1}
    for begin, end in plain_peaks(size):
        found |= {begin - 1, begin, begin + 1, end - 2, end - 1, end, (begin + end) // 2}
    return sorted(entry for entry in found if 0 <= entry < size)


def no_nodes(size):
    """List values that are no nodes of tree(size)."""
    wrong = [[0, size], ["0", size], (0, str(size)), (0, size, size), (0,), ((0, size),), [(0, size)], (0, [size])]
    wrong += [(None, size), (0, None), (False, size), (False, 1), (0, True), (False, True), (size, size), (0, 0)]
    wrong += [(size, size + 1), (0, size + 1), (-1, 0), (-1, size), (size, 0), (0, -size), (0, 10 ** 999)]
    wrong += [(-(10 ** 999), size), (10 ** 999, 10 ** 999 + 1), ((0, 1), 2), (0, 1, None), ((0, 1), (1, 2))]
    return wrong + NO_INTEGERS + FAR_INTEGERS + [0, 1, size, f"0-{size}"]
