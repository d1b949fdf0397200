"""Values that are no lists of spans, bounds or nodes and no texts, with the index of what is wrong first, or None."""

from tests.plain import FAR_INTEGERS, MOST, NO_INTEGERS, no_nodes

NO_LISTS = [value for value in NO_INTEGERS if not isinstance(value, list)] + FAR_INTEGERS + [0, 1, 7, "0-1", "[(0, 1)]"]

# No items of a list of spans of a log with seven entries, wherever they stand.
NO_SPANS = NO_INTEGERS + FAR_INTEGERS + [
    0, 1, 7, "2-3", [2, 3], [(2, 3)], ((2, 3),), (2,), (2, 3, 4), (2, 3, None), ((2, 3), (4, 5)), ("2", 3), (2, "3"),
    (None, 3), (2, None), (True, 3), (False, 1), (0, True), (False, True), ([2], 3), (2, [3]), ((2,), 3), (b"2", b"3"),
    (2, 2), (3, 2), (7, 7), (7, 8), (6, 8), (0, 8), (8, 9), (-1, 3), (-2, -1), (-1, 0), (0, 0), (0, -7), (6, 0),
    (2, 10 ** 999), (-(10 ** 999), 3), (10 ** 999, 10 ** 999 + 1), (2, MOST), (MOST, MOST + 1),
]

# Lists whose spans overlap or do not ascend.
UNORDERED_SPANS = [
    ([(2, 4), (3, 5)], 1), ([(2, 3), (0, 1)], 1), ([(2, 3), (2, 3)], 1), ([(2, 3), (1, 2)], 1), ([(2, 5), (3, 4)], 1),
    ([(5, 6), (2, 3)], 1), ([(0, 7), (0, 7)], 1), ([(0, 7), (6, 7)], 1), ([(0, 1), (2, 4), (3, 5)], 2),
    ([(0, 1), (1, 2), (0, 1)], 2), ([(0, 1), (5, 6), (2, 3)], 2), ([(0, 1), (2, 3), (4, 5), (1, 2)], 3),
    ([(0, 1), (2, 4), (3, 5), None], 2), ([(2, 4), (3, 5), (0, 1), (0, 8)], 1), ([(0, 7), (7, 8)], 1),
]


def wrong_spans():
    """List (value, item) for values that are no spans of a log with seven entries."""
    found = [(value, None) for value in NO_LISTS]
    found += [([], None), (((2, 3),), None), (((2, 3), (5, 6)), None), ({(2, 3): 0}, None), ({0: (2, 3)}, None)]
    # Thirteen items are too many, whatever they are.
    found += [([(2, 3)] * 13, None), ([None] * 13, None), ([(0, 1)] + [None] * 59, None)]
    for wrong in NO_SPANS:
        found += [([wrong], 0), ([wrong, (5, 6)], 0), ([(0, 1), wrong], 1), ([(0, 1), (1, 2), wrong, (5, 6)], 2)]
        found += [([wrong, wrong], 0), ([(0, 1), (1, 2), wrong, None, (3, 2)], 2), ([wrong] * 12, 0)]
    found += [([[2, 3]], 0), ([3], 0), ([[3]], 0), ([True], 0), ([(0, 1)] + [None] * 11, 1)]
    return found + UNORDERED_SPANS


# No items of a list of bounds, wherever they stand.
NO_BOUNDS = NO_INTEGERS + FAR_INTEGERS + [(0, 1), [0], "0", b"1", (4,), MOST + 1]

UNORDERED_BOUNDS = [
    ([0, 0], 1), ([1, 0], 1), ([5, 5], 1), ([MOST, MOST], 1), ([MOST, MOST - 1], 1), ([0, 1, 1], 2), ([0, 2, 1], 2),
    ([0, 3, 3, 2], 2), ([3, 2, None], 1), ([0, 5, 7, 6, True], 3), ([MOST, MOST + 1], 1), ([0, 1, 2, 3, 0], 4),
    ([0] * 12, 1), ([*range(11), 10], 11),
]


def wrong_bounds():
    """List (value, item) for values that are no bounds."""
    found = [(value, None) for value in NO_LISTS]
    found += [([], None), ([0], None), ([None], None), ([[0, 1]], None), ((0, 1), None), ((0, 1, 2), None)]
    found += [(list(range(13)), None), ([0] * 13, None), ([None] * 60, None), ({0: 1, 1: 2}, None), ({0, 1}, None)]
    for wrong in NO_BOUNDS:
        found += [([wrong, 9], 0), ([0, wrong], 1), ([0, 3, wrong, 9], 2), ([0, 3, 5, wrong, wrong], 3)]
        found += [([wrong, wrong], 0), ([0, wrong, None, 0], 1), ([wrong] * 12, 0)]
    return found + UNORDERED_BOUNDS


# No items of a list of nodes of tree(7), wherever they stand; some of them are nodes of other trees.
NO_NODES = no_nodes(7) + [
    (0, 3), (1, 3), (2, 5), (3, 5), (5, 7), (4, 8), (6, 8), (0, 8), (0, 6), (0, 5), (7, 8), (2, 7),
]

NODES = [(0, 4), (4, 7), (6, 7), (2, 3), (0, 4), (0, 7)]


def wrong_nodes():
    """List (value, item) for values that are no lists of nodes of tree(7)."""
    found = [(value, None) for value in NO_LISTS]
    found += [(((0, 4),), None), (((0, 4), (4, 7)), None), ({(0, 4): 0}, None), ({0: (0, 4)}, None), ("0-4", None)]
    for wrong in NO_NODES:
        found += [([wrong], 0), ([wrong, *NODES], 0), ([*NODES, wrong], 6), ([*NODES[:3], wrong, *NODES[3:]], 3)]
        found += [([wrong, wrong], 0), ([*NODES[:2], wrong, None, (0, 8)], 2), ([*NODES * 9, wrong, *NODES[:5]], 54)]
    return found


# Words that have not the form of a node's text, whatever the tree.
NO_FORMS = [
    " ", "-", "0", "4", "04", "0 4", "0-", "-4", "--4", "0--4", "0-4-", "-0-4", "0-4-7", "+0-4", "0-+4", "0-04", "00-4",
    "000-4", "0-4 ", " 0-4", "0 -4", "0- 4", "0-4,", ",0-4", "0-4;4-7", "0-4,4-7", "0,4", "(0,4)",
    "(0-4)", "0:4", "0_0-4", "0-0_4", "0-4.0", "0.0-4", "0x0-4", "0-0x4", "0-4e0", "a-b", "zero-four", "none", "None",
    "0\n-4", "0-4\n", "\n0-4", "\n", "0-4\t", "\t0-4", "0\u20134", "0\u22124", "\u0660-4", "0-\u0664", "0-\uff14",
    "\u00b2-3", "2-\u00b3", "0-4\u00a0", "\u2070-4", "\ud800-4", "0-\u2463", "0-\u0be4", "0" * 100 + "-4",
    "0-" + "0" * 99 + "4", "0-" + "4" * 101, "0" * 9000 + "-4", "9" * 9000, f"0-{10 ** 100}", f"0-{10 ** 999}",
    f"{10 ** 100}-{10 ** 100 + 1}", "0-" + "9" * 101,
]

# Words of that form that are the texts of no node of tree(7).
NO_NODE_TEXTS = [
    "0-8", "4-8", "7-8", "0-0", "4-4", "4-0", "7-0", "0-3", "1-3", "2-5", "5-7", "0-5", "0-6", "2-7", "0-" + "4" * 100,
    f"0-{10 ** 30}", f"0-{10 ** 99}", f"{10 ** 99}-{10 ** 99 + 1}", "0-" + "9" * 100, "9" * 100 + "-7",
]

WRONG_SPANS = wrong_spans()
WRONG_BOUNDS = wrong_bounds()
WRONG_NODES = wrong_nodes()
# Too few and too many nodes for all functions that take some, but not for texts of nodes.
WRONG_COUNTS = [([], None), ([(0, 4)] * 61, None), ([(0, 1)] * 4000, None), ([None] * 61, None), ([(0, 8)] * 61, None)]
WRONG_PARTS = NO_FORMS + NO_NODE_TEXTS
