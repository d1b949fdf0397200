"""Points 8, 10 and 13 and section 9 of the interface: known, missing and needless nodes."""

import unittest
from functools import lru_cache
from itertools import combinations, product

from logtrees.known import gives_root, known_tops, missing, needless
from logtrees.needs import needed
from logtrees.shapes import is_node, peaks
from tests.plain import (
    GREAT, MOST, marked_entries, plain_full, plain_halves, plain_known, plain_line, plain_parts, plain_tree,
)


@lru_cache(maxsize=None)
def joined_nodes(size, nodes):
    """Return the set of all nodes that are known from a set of them by joining halves until nothing more is known."""
    known = set(nodes)
    pairs = [(node, plain_halves(node)) for node in plain_tree(size) if node[1] - node[0] > 1]
    while True:
        more = {node for node, both in pairs if node not in known and both[0] in known and both[1] in known}
        if not more:
            return known
        known |= more


def entries_of(nodes):
    return {entry for a, b in nodes for entry in range(a, b)}


def tops_of(known):
    return sorted(node for node in known if not any(
        other != node and other[0] <= node[0] and node[1] <= other[1] for other in known))


@lru_cache(maxsize=None)
def least_lists(size, nodes):
    """List all least lists without an entry of the nodes that give the root together with them, trying each one."""
    told = entries_of(nodes)
    others = [node for node in sorted(plain_tree(size)) if not told & set(range(*node))]
    for many in range(len(others) + 1):
        found = [list(more) for more in combinations(others, many)
                 if (0, size) in joined_nodes(size, frozenset(nodes) | set(more))]
        if found:
            return found
    return []


def plain_needless(nodes):
    return [index for index, node in enumerate(nodes)
            if set(range(*node)) <= entries_of(nodes[:index] + nodes[index + 1:])]


def great_beside(size, nodes):
    """List the greatest nodes without an entry of the nodes by a descent from the root."""
    def untold(a, b):
        return all(end <= a or b <= begin for begin, end in nodes)

    return plain_parts((0, size), untold, lambda a, b: any(begin <= a and b <= end for begin, end in nodes))


def great_tops(size, nodes):
    """List the greatest known nodes by joining halves upwards."""
    known, fresh = set(nodes), list(nodes)
    lines = {}
    for a, b in nodes:
        for above, node in zip(plain_line(size, a), plain_line(size, a)[1:]):
            lines[node] = above
    while fresh:
        above = lines.get(fresh.pop())
        if above and above not in known and all(half in known for half in plain_halves(above)):
            known.add(above)
            fresh.append(above)
    return tops_of(known)


def great_lists(size):
    """List lists of nodes of a great tree: along lines, halves, peaks, some twice, some within others."""
    marks = marked_entries(size)
    lines = [plain_line(size, entry) for entry in marks[::7]]
    found = [[(0, size)], [(0, 1)], [(size - 1, size)], [*peaks(size)], peaks(size)[::-1][:59] + [(0, 1)]]
    found += [line[depth:depth + 2] for line in lines for depth in (0, 1, len(line) // 2, len(line) - 1)]
    found += [line[::-1][:60] for line in lines] + [[*line[-3:], *line[-5:-1], (0, 1)] for line in lines]
    found.append([(entry, entry + 1) for entry in marks[:60]])
    found.append([(entry, entry + 1) for entry in marks[-60:]][::-1])
    found.append([line[min(7, len(line) - 1)] for line in lines] * 2)
    for line in lines[::2]:
        halves = [half for node in line if node[1] - node[0] > 1 for half in plain_halves(node)]
        found += [halves[:60], halves[::-1][:60], halves[1::2][:60], halves[3:60:3] + [(0, size)]]
        # The siblings along a line and what the line ends with.
        siblings = [half for half in halves if half not in line]
        found += [siblings[:60], siblings[:30] + [line[min(30, len(line) - 1)]], siblings[1:50] + [line[-1]] * 2]
    return [nodes[:60] for nodes in found if nodes]


class ExampleTest(unittest.TestCase):
    def test_first(self):
        self.assertEqual(
            [gives_root(7, [(4, 7), (0, 2), (2, 4)]), known_tops(7, [(6, 7), (0, 2), (4, 6), (1, 2)]),
             missing(7, [(6, 7), (0, 2), (4, 6)])],
            [True, [(0, 2), (4, 7)], [(2, 4)]])

    def test_second(self):
        self.assertEqual(
            [needless(7, [(0, 4), (2, 3), (4, 7), (4, 7)]), missing(7, [(0, 7)]), missing(7, [(5, 6)])],
            [[1, 2, 3], [], [(0, 4), (4, 5), (6, 7)]])


class SmallTreesTest(unittest.TestCase):
    def lists(self, size, most):
        for many in range(1, most + 1):
            yield from product(sorted(plain_tree(size)), repeat=many)

    def test_all_lists_of_a_few_nodes(self):
        for size, most in ((1, 4), (2, 4), (3, 4), (4, 4), (5, 4), (6, 3), (7, 3), (8, 3), (9, 2), (11, 2), (13, 2)):
            for nodes in self.lists(size, most):
                known = joined_nodes(size, frozenset(nodes))
                given = list(nodes)
                self.assertIs(gives_root(size, given), (0, size) in known, (size, nodes))
                self.assertEqual(needless(size, given), plain_needless(given), (size, nodes))
                if nodes == tuple(sorted(nodes)):
                    tops = tops_of(known)
                    for sequence in (given, given[::-1], given[1:] + given[:1]):
                        self.assertEqual(known_tops(size, sequence), tops, (size, sequence))

    def test_all_sets_of_nodes(self):
        for size in (1, 2, 3, 4, 5, 6):
            tree = sorted(plain_tree(size))
            for many in range(1, len(tree) + 1):
                for nodes in combinations(tree, many):
                    known = joined_nodes(size, frozenset(nodes))
                    given = list(nodes[::-1])
                    self.assertIs(gives_root(size, given), (0, size) in known)
                    self.assertEqual(known_tops(size, given), tops_of(known))
                    self.assertEqual(needless(size, given), plain_needless(given))

    def test_missing_is_the_one_least_list(self):
        for size, most in ((1, 3), (2, 3), (3, 3), (4, 3), (5, 3), (6, 2), (7, 2)):
            for nodes in self.lists(size, most):
                least = least_lists(size, tuple(sorted({*nodes})))
                self.assertEqual([missing(size, list(nodes))], least, (size, nodes))

    def test_missing_of_longer_lists(self):
        for size in (9, 12, 15, 16, 21):
            tree = sorted(plain_tree(size))
            for place in range(len(tree)):
                for many in (1, 2, 4, 6):
                    given = (tree * 2)[place:place + 3 * many:3][::-1]
                    told = entries_of(given)
                    free = {node for node in tree if not told & set(range(*node))}
                    self.assertEqual(missing(size, given), tops_of(free), (size, given))

    def test_joining_is_the_same_as_going_up(self):
        for size in (5, 7, 8, 11):
            for nodes in self.lists(size, 2):
                self.assertEqual(joined_nodes(size, frozenset(nodes)), plain_known(size, nodes))

    def test_nodes_within_others(self):
        self.assertEqual(known_tops(7, [(0, 4)]), [(0, 4)])
        self.assertEqual(known_tops(7, [(2, 3), (0, 4), (3, 4)]), [(0, 4)])
        self.assertEqual(known_tops(7, [(0, 1), (1, 2), (2, 4), (0, 2)]), [(0, 4)])
        self.assertEqual(needless(7, [(0, 4), (0, 2), (2, 4)]), [0, 1, 2])
        self.assertEqual(needless(7, [(0, 2), (2, 4), (4, 7)]), [])
        self.assertEqual(needless(7, [(0, 7)] * 60), list(range(60)))
        self.assertEqual(needless(1, [(0, 1)]), [])
        self.assertEqual(missing(1, [(0, 1)]), [])
        self.assertEqual(missing(7, [(0, 4), (2, 3)]), [(4, 7)])

    def test_neighbours_that_are_no_halves(self):
        self.assertEqual(known_tops(7, [(1, 2), (2, 3)]), [(1, 2), (2, 3)])
        self.assertEqual(known_tops(7, [(2, 4), (4, 6)]), [(2, 4), (4, 6)])
        self.assertEqual(known_tops(7, [(2, 4), (4, 6), (6, 7)]), [(2, 4), (4, 7)])
        self.assertEqual(known_tops(8, [(2, 4), (6, 7), (4, 6), (7, 8)]), [(2, 4), (4, 8)])


class GreatTreesTest(unittest.TestCase):
    def test_lists(self):
        for place, size in enumerate(GREAT[::5] + [MOST]):
            for nodes in great_lists(size)[place % 4::4]:
                beside = great_beside(size, nodes)
                tops = great_tops(size, nodes)
                self.assertEqual(missing(size, nodes), beside, (size, nodes))
                self.assertIs(gives_root(size, nodes), beside == [], (size, nodes))
                self.assertEqual(known_tops(size, nodes), tops, (size, nodes))
                # What is left out is needless if nothing else is missing without it.
                entries = sum(b - a for a, b in tops)
                spare = [index for index in range(len(nodes)) if len(nodes) > 1 and entries == sum(
                    b - a for a, b in known_tops(size, nodes[:index] + nodes[index + 1:]))]
                self.assertEqual(needless(size, nodes), spare, (size, nodes))

    def test_the_plain_ways(self):
        for size in (5, 8, 11):
            for nodes in product(sorted(plain_tree(size)), repeat=2):
                told = entries_of(nodes)
                free = {node for node in plain_tree(size) if not told & set(range(*node))}
                self.assertEqual(great_beside(size, nodes), tops_of(free))
                self.assertEqual(great_tops(size, nodes), tops_of(joined_nodes(size, frozenset(nodes))))

    def test_missing_and_given_nodes_lie_apart_and_give_the_root(self):
        for size in GREAT[::4] + [MOST]:
            for nodes in great_lists(size)[::3]:
                rest = missing(size, nodes)
                tops = known_tops(size, nodes)
                together = sorted(tops + rest)
                self.assertTrue(all(is_node(size, node) for node in together))
                self.assertEqual([a for a, _ in together] + [size], [0] + [b for _, b in together])
                if len(rest) + len(nodes) <= 60:
                    self.assertTrue(gives_root(size, nodes + rest))
                    self.assertEqual(known_tops(size, rest + nodes), [(0, size)])
                    self.assertEqual(missing(size, rest + nodes), [])
                for index in range(min(len(rest), 5)) if len(rest) + len(nodes) <= 61 else []:
                    if len(nodes) + len(rest) > 1:
                        self.assertFalse(gives_root(size, nodes + rest[:index] + rest[index + 1:]))

    def test_missing_beside_a_leaf_is_needed(self):
        for size in GREAT:
            for entry in marked_entries(size)[::11]:
                leaf = (entry, entry + 1)
                self.assertEqual(missing(size, [leaf]), needed(size, [leaf]))

    def test_many_nodes_are_missing(self):
        step = 2 ** 99 // 64
        nodes = [(place * step + 12345, place * step + 12346) for place in range(60)]
        rest = missing(MOST, nodes)
        self.assertEqual(rest, great_beside(MOST, nodes))
        self.assertGreater(len(rest), 5000)
        self.assertEqual(needless(MOST, nodes), [])
        self.assertEqual(known_tops(MOST, nodes[::-1]), nodes)

    def test_peaks_give_the_root(self):
        for size in GREAT:
            tops = peaks(size)
            if len(tops) <= 60:
                self.assertTrue(gives_root(size, tops[::-1]))
                self.assertEqual(known_tops(size, tops[::-1]), [(0, size)])
                self.assertEqual(needless(size, tops), [])
                self.assertEqual(needless(size, [*tops[1:], (0, size)]), list(range(len(tops) - 1)))
            for index in range(0, len(tops), 9):
                rest = (tops[:index] + tops[index + 1:])[:60]
                if rest:
                    self.assertFalse(gives_root(size, rest))
            self.assertTrue(all(plain_full(top) for top in tops))


if __name__ == "__main__":
    unittest.main()
