"""Points 9 and 11 and section 5 of the interface: the nodes that show an older log within a newer one."""

import unittest
from functools import lru_cache

from logtrees.older import longest_older, older_count, older_list
from logtrees.shapes import is_node
from tests.plain import (
    GREAT, MOST, SMALL, marked_entries, plain_full, plain_halves, plain_known, plain_parts, plain_peaks, plain_tree,
)


def without_root(older, nodes):
    return sorted(node for node in nodes if node != (0, older))


def plain_older(size, older):
    """List the nodes of point 11 from the tree built node by node."""
    if older == size:
        return []
    new = [node for node, above in plain_tree(size).items() if node[0] >= older and above[0] < older]
    return without_root(older, plain_peaks(older) + new)


def great_older(size, older):
    """List the same by a descent from the root, for trees that are too great to build."""
    if older == size:
        return []
    new = plain_parts((0, size), lambda a, b: older <= a, lambda a, b: b <= older)
    return without_root(older, plain_peaks(older) + new)


@lru_cache(maxsize=None)
def longest_split(width, at_zero):
    """Return (count, -offset): the most nodes that hang below a node if it is parted somewhere, and the least place.

    Parted between its halves it leaves these two, else it leaves one half and what the other one leaves. If it begins
    at 0, the low part of such a cut is the older root where it is a node.
    """
    if width == 1:
        return None
    (_, middle), _ = plain_halves((0, width))
    found = [(1 if at_zero else 2, -middle)]
    low, high = longest_split(middle, at_zero), longest_split(width - middle, False)
    if low:
        found.append((low[0] + 1, low[1]))
    if high:
        found.append((high[0] + 1, high[1] - middle))
    return max(found)


class ExampleTest(unittest.TestCase):
    def test_first(self):
        self.assertEqual(
            [older_list(7, older) for older in (3, 4, 6, 2)],
            [[(0, 2), (2, 3), (3, 4), (4, 7)], [(4, 7)], [(0, 4), (4, 6), (6, 7)], [(2, 4), (4, 7)]])

    def test_second(self):
        self.assertEqual(
            [older_count(7, 7), older_count(10 ** 30, 1), longest_older(7), longest_older(1), longest_older(2)],
            [0, 100, (4, 3), (0, 1), (1, 1)])


class SmallTreesTest(unittest.TestCase):
    def test_older_list_and_count(self):
        for size in SMALL:
            for older in range(1, size + 1):
                nodes = plain_older(size, older)
                self.assertEqual(older_list(size, older), nodes, (size, older))
                self.assertEqual(older_count(size, older), len(nodes), (size, older))

    def test_longest_older(self):
        for size in SMALL:
            counts = [len(plain_older(size, older)) for older in range(1, size + 1)]
            self.assertEqual(longest_older(size), (max(counts), 1 + counts.index(max(counts))), size)

    def test_both_roots_come_from_them(self):
        for size in range(2, 25):
            for older in range(1, size):
                # Where the older root is a peak, it is one of the nodes of point 11; only the list leaves it out.
                nodes = older_list(size, older)
                if plain_full((0, older)):
                    nodes.append((0, older))
                self.assertTrue(all(b <= older or older <= a for a, b in nodes))
                self.assertTrue(self.gives_both(size, older, nodes), (size, older))
                for place in range(len(nodes)):
                    self.assertFalse(self.gives_both(size, older, nodes[:place] + nodes[place + 1:]), (size, older))

    def gives_both(self, size, older, nodes):
        return (0, size) in plain_known(size, nodes) and (0, older) in plain_known(older, nodes)

    def test_the_older_root_is_left_out(self):
        for size in SMALL:
            for older in range(1, size + 1):
                self.assertNotIn((0, older), older_list(size, older))

    def test_equal_sizes(self):
        for size in [*SMALL, *GREAT]:
            self.assertEqual(older_list(size, size), [])
            self.assertEqual(older_count(size, size), 0)


class GreatTreesTest(unittest.TestCase):
    def test_older_list_and_count(self):
        for size in GREAT:
            for older in {*marked_entries(size)[1:], size, *[other for other in GREAT[::4] if other <= size]}:
                nodes = great_older(size, older)
                self.assertEqual(older_list(size, older), nodes, (size, older))
                self.assertEqual(older_count(size, older), len(nodes), (size, older))

    def test_the_plain_descent(self):
        for size in range(1, 40):
            for older in range(1, size + 1):
                self.assertEqual(great_older(size, older), plain_older(size, older))

    def test_the_nodes_are_of_both_trees(self):
        for size in GREAT[::5] + [MOST]:
            for older in marked_entries(size)[1::4]:
                for node in older_list(size, older):
                    self.assertTrue(is_node(size, node))
                    self.assertIs(is_node(older, node), node[1] <= older)

    def test_longest_older(self):
        for size in GREAT:
            count, place = longest_split(size, True)
            self.assertEqual(longest_older(size), (count, -place), size)
            self.assertEqual(len(great_older(size, -place)), count, size)

    def test_longest_older_by_the_plain_splits(self):
        for size in range(2, 71):
            counts = [len(plain_older(size, older)) for older in range(1, size + 1)]
            count, place = longest_split(size, True)
            self.assertEqual((count, -place), (max(counts), 1 + counts.index(max(counts))), size)

    def test_no_older_size_has_more(self):
        for size in GREAT[::3] + [MOST]:
            count, place = longest_older(size)
            self.assertEqual(older_count(size, place), count)
            for older in marked_entries(size)[1:]:
                self.assertLessEqual(older_count(size, older), count)
            self.assertTrue(all(older_count(size, older) < count for older in range(1, place)))

    def test_ends(self):
        self.assertEqual([longest_older(size) for size in (3, 4, 5, 8)], [(2, 1), (3, 3), (4, 3), (4, 3)])
        self.assertEqual(longest_older(MOST), (101, 3))
        self.assertEqual(longest_older(2 ** 99), (100, 3))
        self.assertEqual(longest_older(2 ** 99 + 1), (101, 3))
        self.assertEqual(older_list(2 ** 99 + 1, 2 ** 99), [(2 ** 99, 2 ** 99 + 1)])
        self.assertEqual(older_list(2 ** 99 + 3, 2 ** 99), [(2 ** 99, 2 ** 99 + 3)])
        self.assertEqual(older_list(1, 1), [])
        self.assertEqual(older_list(2, 1), [(1, 2)])


if __name__ == "__main__":
    unittest.main()
