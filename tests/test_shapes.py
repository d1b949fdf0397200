"""Points 5, 6 and 9 and section 2 of the interface: the shape of the trees."""

import unittest

from logtrees.shapes import (
    common_count, edges, halves, height_count, is_node, node_count, parent, peaks, sibling,
)
from tests.plain import (
    GREAT, MOST, SMALL, marked_entries, no_nodes, plain_full, plain_halves, plain_height, plain_line, plain_peaks,
    plain_tree,
)


class ExampleTest(unittest.TestCase):
    def test_first(self):
        self.assertEqual(
            [peaks(7), edges(7), halves(7, (4, 7)), halves(7, (2, 3)), parent(7, (4, 6)), parent(7, (6, 7)),
             sibling(7, (0, 4))],
            [[(0, 4), (4, 6), (6, 7)], [(0, 7), (4, 7)], ((4, 6), (6, 7)), None, (4, 7), (4, 7), (4, 7)])

    def test_second(self):
        self.assertEqual(
            [node_count(7), common_count(7, 5), [height_count(7, number) for number in range(5)], edges(8),
             node_count(10 ** 30)[1]],
            [(11, 2), 8, [7, 3, 2, 1, 0], [], 36])

    def test_definitions(self):
        self.assertEqual(halves(7, (0, 7)), ((0, 4), (4, 7)))


class SmallTreesTest(unittest.TestCase):
    def test_peaks(self):
        for size in SMALL:
            self.assertEqual(peaks(size), plain_peaks(size), size)
            self.assertTrue(all(plain_full(peak) for peak in peaks(size)))

    def test_edges(self):
        for size in SMALL:
            cut = [node for node in plain_tree(size) if not plain_full(node)]
            self.assertEqual(edges(size), sorted(cut, key=lambda node: node[0] - node[1]), size)
            self.assertEqual(edges(size), [(begin, size) for begin, _ in plain_peaks(size)[:-1]])

    def test_is_node(self):
        for size in SMALL:
            tree = plain_tree(size)
            for begin in range(-2, size + 3):
                for end in range(-2, size + 3):
                    self.assertIs(is_node(size, (begin, end)), (begin, end) in tree, (size, begin, end))

    def test_halves_parent_and_sibling(self):
        for size in SMALL:
            for node, above in plain_tree(size).items():
                both = plain_halves(node) if node[1] - node[0] > 1 else None
                self.assertEqual(halves(size, node), both, (size, node))
                self.assertEqual(parent(size, node), above, (size, node))
                others = [half for half in plain_halves(above) if half != node] if above else [None]
                self.assertEqual([sibling(size, node)], others, (size, node))

    def test_node_count(self):
        for size in SMALL:
            full = [plain_full(node) for node in plain_tree(size)]
            self.assertEqual(node_count(size), (full.count(True), full.count(False)), size)

    def test_common_count(self):
        trees = {size: set(plain_tree(size)) for size in SMALL}
        for size in SMALL:
            for other in SMALL:
                self.assertEqual(common_count(size, other), len(trees[size] & trees[other]), (size, other))

    def test_height_count(self):
        for size in SMALL:
            heights = [plain_height(node) for node in plain_tree(size)]
            for number in range(-3, 12):
                self.assertEqual(height_count(size, number), heights.count(number), (size, number))


class GreatTreesTest(unittest.TestCase):
    def test_peaks_and_edges(self):
        for size in GREAT:
            tops = plain_peaks(size)
            self.assertEqual(peaks(size), tops)
            self.assertEqual(edges(size), [(begin, size) for begin, _ in tops[:-1]])

    def test_lines(self):
        for size in GREAT:
            for entry in marked_entries(size):
                line = plain_line(size, entry)
                self.assertIsNone(parent(size, line[0]))
                self.assertIsNone(sibling(size, line[0]))
                self.assertIsNone(halves(size, line[-1]))
                for above, node in zip(line, line[1:]):
                    both = plain_halves(above)
                    self.assertTrue(is_node(size, node))
                    self.assertEqual(halves(size, above), both)
                    self.assertEqual(parent(size, node), above)
                    self.assertEqual(sibling(size, node), both[1 - both.index(node)])

    def test_is_node_beside_nodes(self):
        for size in [*GREAT[::5], MOST]:
            for entry in marked_entries(size)[::20]:
                for a, b in plain_line(size, entry):
                    for begin in (a - 1, a, a + 1):
                        there = plain_line(size, begin) if 0 <= begin < size else []
                        for end in (b - 1, b, b + 1, size):
                            told = is_node(size, (begin, end))
                            self.assertIs(told, (begin, end) in there, (size, begin, end))

    def test_counts(self):
        for size in GREAT:
            ones = bin(size).count("1")
            full, cut = 0, edges(size)
            for height in range(100):
                # The full nodes of a height stand side by side from the first entry on.
                many = size // 2 ** height
                full += many
                more = [edge for edge in cut if plain_height(edge) == height]
                self.assertEqual(height_count(size, height), many + len(more), (size, height))
            self.assertEqual(node_count(size), (full, ones - 1))
            self.assertEqual(sum(height_count(size, height) for height in range(-1, 102)), 2 * size - 1)

    def test_heights_that_none_has(self):
        for size in (1, 7, 8, 2 ** 99, MOST):
            for number in (-1, 101, 102, -(10 ** 99), 10 ** 99, 10 ** 999, -(10 ** 999)):
                self.assertEqual(height_count(size, number), 0)
        self.assertEqual([height_count(MOST, number) for number in (0, 100)], [MOST, 1])
        self.assertEqual([height_count(2 ** 99, number) for number in (98, 99, 100)], [2, 1, 0])
        self.assertEqual([height_count(2 ** 99 + 1, number) for number in (98, 99, 100)], [2, 1, 1])

    def test_common_count(self):
        for low, high in zip(GREAT, GREAT[1:]):
            self.assertEqual(common_count(low, high), 2 * low - bin(low).count("1"))
            self.assertEqual(common_count(high, low), common_count(low, high))
            self.assertEqual(common_count(low, low), 2 * low - 1)


class AnyValueTest(unittest.TestCase):
    def test_is_node_of_no_node(self):
        for size in (1, 2, 7, 8, 2 ** 99, MOST):
            for value in no_nodes(size):
                self.assertIs(is_node(size, value), False, (size, value))

    def test_is_node_takes_no_bool_for_an_integer(self):
        self.assertIs(is_node(7, (0, 1)), True)
        for value in ((False, 1), (0, True), (False, True), (True, 2)):
            self.assertIs(is_node(7, value), False)

    def test_is_node_of_other_trees(self):
        self.assertEqual([is_node(7, (0, 7)), is_node(8, (0, 7)), is_node(6, (0, 7))], [True, False, False])
        self.assertEqual([is_node(7, (4, 7)), is_node(8, (4, 7)), is_node(7, (4, 8))], [True, False, False])

    def test_is_node_of_a_deep_value(self):
        deep = ()
        for _ in range(39):
            deep = (deep, 1)
        self.assertIs(is_node(7, deep), False)


if __name__ == "__main__":
    unittest.main()
