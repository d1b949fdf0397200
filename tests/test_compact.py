"""Points 6 and 12 and section 6 of the interface: the fewest full nodes of stretches, and their joining."""

import unittest
from functools import lru_cache
from itertools import combinations

from logtrees.compact import compact, compact_count, greatest, join_sums
from tests.plain import GREAT, MOST, marked_entries, plain_full, plain_parts

LENGTH = 64

FULL = [(a, b) for a, b in combinations(range(LENGTH + 1), 2) if plain_full((a, b))]


@lru_cache(maxsize=None)
def plain_compact(begin, end):
    """List the full nodes within a stretch that lie within no other one of them."""
    within = [node for node in FULL if begin <= node[0] and node[1] <= end]
    return sorted(node for node in within
                  if not any(node != other and other[0] <= node[0] and node[1] <= other[1] for other in within))


@lru_cache(maxsize=None)
def fewest(begin, end):
    """Return how few full nodes make up a stretch, trying each one that it can begin with."""
    if begin == end:
        return 0
    return 1 + min(fewest(b, end) for a, b in FULL if a == begin and b <= end)


def great_compact(begin, end):
    """List the greatest full nodes within a stretch by a descent in a tree with full nodes alone."""
    return plain_parts((0, 2 ** 100), lambda a, b: begin <= a and b <= end, lambda a, b: b <= begin or end <= a)


def first_greatest(nodes):
    return [node for node in nodes if node[1] - node[0] == max(b - a for a, b in nodes)][0]


def joined(nodes, choose):
    """Join two neighbours that are the halves of a full node, again and again, and return (what is left, joinings)."""
    nodes, sums = list(nodes), 0
    while True:
        places = [place for place, (low, high) in enumerate(zip(nodes, nodes[1:]))
                  if low[1] - low[0] == high[1] - high[0] and plain_full((low[0], high[1]))]
        if not places:
            return nodes, sums
        place = choose(places, nodes, sums)
        nodes[place:place + 2] = [(nodes[place][0], nodes[place + 1][1])]
        sums += 1


SEQUENCES = [
    lambda places, nodes, sums: places[0],
    lambda places, nodes, sums: places[-1],
    lambda places, nodes, sums: places[len(places) // 2],
    lambda places, nodes, sums: places[(7 * sums + 3) % len(places)],
    lambda places, nodes, sums: min(places, key=lambda place: nodes[place][1] - nodes[place][0]),
    lambda places, nodes, sums: max(places, key=lambda place: nodes[place][1] - nodes[place][0]),
]


def plain_bounds(bounds):
    return [node for begin, end in zip(bounds, bounds[1:]) for node in great_compact(begin, end)]


def great_stretches(size):
    marks = marked_entries(size)[::4]
    found = [(0, size), (1, size), (0, 1), (size - 1, size), (1, size - 1), (size // 2, size // 2 + 2)]
    found += [(mark, mark + 1) for mark in marks] + [(0, mark) for mark in marks if mark]
    found += [(mark, size) for mark in marks] + [*zip(marks, marks[1:])] + [*zip(marks, marks[9:])]
    return found


class ExampleTest(unittest.TestCase):
    def test_all(self):
        self.assertEqual(
            [compact(3, 11), compact(3, 12), greatest(3, 12), compact_count(1, 2 ** 90 - 1), join_sums([3, 11, 12]),
             join_sums([0, 1, 2, 3, 4])],
            [[(3, 4), (4, 8), (8, 10), (10, 11)], [(3, 4), (4, 8), (8, 12)], (4, 8), 178, 2, 3])


class SmallStretchesTest(unittest.TestCase):
    def test_all_stretches(self):
        for begin, end in combinations(range(LENGTH + 1), 2):
            nodes = plain_compact(begin, end)
            self.assertEqual(compact(begin, end), nodes, (begin, end))
            self.assertEqual(compact_count(begin, end), len(nodes), (begin, end))
            self.assertEqual(greatest(begin, end), first_greatest(nodes), (begin, end))

    def test_no_fewer_full_nodes_make_up_a_stretch(self):
        for begin, end in combinations(range(LENGTH + 1), 2):
            self.assertEqual(compact_count(begin, end), fewest(begin, end), (begin, end))

    def test_the_first_of_equal_ones(self):
        told = [greatest(begin, end) for begin, end in ((1, 3), (2, 6), (3, 5), (1, 7))]
        self.assertEqual(told, [(1, 2), (2, 4), (3, 4), (2, 4)])

    def test_the_plain_descent(self):
        for begin, end in combinations(range(LENGTH + 1), 2):
            self.assertEqual(great_compact(begin, end), plain_compact(begin, end))

    def test_joins_in_any_sequence(self):
        for many in (2, 3, 4, 5):
            for bounds in combinations(range(11), many):
                for choose in SEQUENCES:
                    left, sums = joined(plain_bounds(bounds), choose)
                    self.assertEqual(left, compact(bounds[0], bounds[-1]), bounds)
                    self.assertEqual(join_sums(list(bounds)), sums, bounds)

    def test_joins_of_stretches_of_three_bounds(self):
        for bounds in combinations(range(33), 3):
            self.assertEqual(join_sums([*bounds]), joined(plain_bounds(bounds), SEQUENCES[0])[1], bounds)

    def test_joins_of_many_stretches(self):
        for begin in range(0, 40, 3):
            for step in (1, 2, 3, 4, 5, 7, 8):
                for many in range(2, 13):
                    bounds = [begin + step * place for place in range(many)]
                    for choose in SEQUENCES:
                        self.assertEqual(join_sums(bounds), joined(plain_bounds(bounds), choose)[1], bounds)

    def test_one_stretch_takes_no_sum(self):
        for begin, end in combinations(range(LENGTH + 1), 2):
            self.assertEqual(join_sums([begin, end]), 0)


class GreatStretchesTest(unittest.TestCase):
    def test_stretches(self):
        for size in GREAT:
            for begin, end in great_stretches(size):
                nodes = great_compact(begin, end)
                self.assertEqual(compact(begin, end), nodes, (begin, end))
                self.assertEqual(compact_count(begin, end), len(nodes), (begin, end))
                self.assertEqual(greatest(begin, end), first_greatest(nodes), (begin, end))

    def test_stretches_between_great_ends(self):
        for begin, end in combinations(GREAT[::2] + [MOST], 2):
            if begin < end:
                nodes = great_compact(begin, end)
                self.assertEqual(compact(begin, end), nodes, (begin, end))
                self.assertEqual(greatest(begin, end), first_greatest(nodes), (begin, end))

    def test_ends(self):
        self.assertEqual(compact(0, 2 ** 99), [(0, 2 ** 99)])
        self.assertEqual(compact(2 ** 98, 2 ** 99), [(2 ** 98, 2 ** 99)])
        self.assertEqual(compact(MOST - 1, MOST), [(MOST - 1, MOST)])
        self.assertEqual(greatest(0, MOST), (0, 2 ** 99))
        self.assertEqual(compact_count(0, MOST), bin(MOST).count("1"))
        self.assertEqual(greatest(2 ** 98 - 1, 2 ** 98 + 1), (2 ** 98 - 1, 2 ** 98))

    def test_joins(self):
        for size in GREAT[::3] + [MOST]:
            marks = marked_entries(size)
            for many in (2, 3, 5, 8, 12):
                for bounds in (marks[:many], marks[-many:], marks[::max(1, len(marks) // many)][:many]):
                    nodes = plain_bounds(bounds)
                    sums = len(nodes) - len(great_compact(bounds[0], bounds[-1]))
                    self.assertEqual(join_sums(bounds), sums, bounds)

    def test_joins_in_any_sequence(self):
        powers = [2 ** power for power in range(90, 100)]
        for bounds in ([1, 2 ** 50, 2 ** 70, MOST], [0, 2 ** 99 - 1, MOST - 1, MOST], [5, 3 ** 60, 10 ** 29],
                       [*range(2 ** 90 - 6, 2 ** 90 + 6)], [0, *powers, MOST]):
            for choose in SEQUENCES:
                left, sums = joined(plain_bounds(bounds), choose)
                self.assertEqual(join_sums(bounds), sums, bounds)
                self.assertEqual(left, compact(bounds[0], bounds[-1]))


if __name__ == "__main__":
    unittest.main()
