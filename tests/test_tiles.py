"""Points 5, 6 and 9 and section 8 of the interface: tiles, their widths and what comes from them."""

import unittest
from functools import lru_cache

from logtrees.shapes import edges, peaks
from logtrees.tiles import changed_tiles, tile_count, tile_width, tiles_of
from tests.plain import (
    GREAT, MOST, marked_entries, plain_full, plain_height, plain_line, plain_peaks, plain_tree,
)

SIZES = [*range(1, 41), 47, 48, 49, 63, 64, 65, 70]
HEIGHTS = (1, 2, 3, 4, 5, 6, 7, 8, 29, 30)


@lru_cache(maxsize=None)
def plain_tiles(size, height):
    """Map each tile that is there to the full nodes that it keeps, from all full nodes one by one."""
    found = {}
    for node in plain_tree(size):
        if plain_full(node) and plain_height(node) % height == 0:
            level = plain_height(node) // height
            found.setdefault((level, node[0] // 2 ** ((level + 1) * height)), []).append(node)
    return found


def plain_sources(size, height, node):
    """List the tiles that keep the nodes of which a full node is joined."""
    level = plain_height(node) // height
    tiles = plain_tiles(size, height)
    return {tile for tile, kept in tiles.items() if tile[0] == level and any(
        node[0] <= a and b <= node[1] for a, b in kept)}


def great_sources(height, nodes):
    """List the same for full nodes of great trees, from the bounds of the tiles' entries."""
    found = set()
    for a, b in nodes:
        level = 0
        while 2 ** ((level + 1) * height) <= b - a:
            level += 1
        found.add((level, a // 2 ** ((level + 1) * height)))
    return found


def first_number(test):
    """Return the first number from 0 on for which a test holds that holds for all beyond it."""
    low, high = 0, 1
    while not test(high):
        high *= 2
    while low < high:
        middle = (low + high) // 2
        low, high = (low, middle) if test(middle) else (middle + 1, high)
    return low


def great_numbers(size, height, level):
    """Return how many tiles of a level are there and how many have the greatest width, by their widths alone."""
    there = first_number(lambda number: tile_width(size, height, level, number) == 0)
    full = first_number(lambda number: tile_width(size, height, level, number) < 2 ** height)
    return there, full


class ExampleTest(unittest.TestCase):
    def test_first(self):
        self.assertEqual(
            [tile_count(7, 2), [tile_width(7, 2, level, number) for level, number in ((0, 0), (0, 1), (0, 2), (1, 0))],
             changed_tiles(7, 2, 5), changed_tiles(8, 2, 7)],
            [(3, 1), [4, 3, 0, 1], 1, 2])

    def test_second(self):
        self.assertEqual(
            [tiles_of(7, 2, [(3, 4), (4, 5), (0, 2)]), tiles_of(7, 2, [(0, 4)]), tiles_of(7, 2, [(0, 7)]),
             tile_count(10 ** 30, 8)[0] > 10 ** 27],
            [[(0, 0), (0, 1)], [(1, 0)], [(0, 1), (1, 0)], True])


class SmallTreesTest(unittest.TestCase):
    def test_widths(self):
        for size in SIZES:
            for height in HEIGHTS:
                tiles = plain_tiles(size, height)
                for level in range(9):
                    for number in range(size // 2 ** height + 3 if level == 0 else size // 4 + 2):
                        width = len(tiles.get((level, number), []))
                        self.assertEqual(tile_width(size, height, level, number), width, (size, height, level, number))

    def test_counts(self):
        for size in SIZES:
            for height in HEIGHTS:
                widths = [len(kept) for kept in plain_tiles(size, height).values()]
                told = (len(widths), widths.count(2 ** height))
                self.assertEqual(tile_count(size, height), told, (size, height))

    def test_tiles_of_single_nodes(self):
        for size in SIZES:
            for height in HEIGHTS:
                for node in plain_tree(size):
                    parts = [node] if plain_full(node) else [peak for peak in plain_peaks(size) if node[0] <= peak[0]]
                    tiles = set()
                    for part in parts:
                        sources = plain_sources(size, height, part)
                        self.assertEqual(len(sources), 1)
                        tiles |= sources
                    self.assertEqual(tiles_of(size, height, [node]), sorted(tiles), (size, height, node))

    def test_tiles_of_several_nodes(self):
        for size in (5, 7, 8, 13, 21):
            nodes = sorted(plain_tree(size))
            for height in HEIGHTS:
                for place in range(len(nodes)):
                    for step in (1, 2, 3, 5):
                        given = (nodes[place::step] + nodes[:place:step])[::-1]
                        tiles = {tile for node in given for tile in tiles_of(size, height, [node])}
                        self.assertEqual(tiles_of(size, height, given), sorted(tiles))

    def test_each_tile_once(self):
        self.assertEqual(tiles_of(7, 2, [(0, 1), (0, 1), (1, 2), (0, 2), (3, 4)]), [(0, 0)])
        self.assertEqual(tiles_of(7, 2, [(6, 7), (0, 7), (0, 4), (4, 7)]), [(0, 1), (1, 0)])

    def test_ascending(self):
        self.assertEqual(tiles_of(70, 1, [(0, 64), (69, 70), (0, 1), (2, 4)]), [(0, 0), (0, 34), (1, 0), (6, 0)])
        self.assertEqual(tiles_of(70, 1, [(0, 70)]), [(1, 17), (2, 8), (6, 0)])

    def test_changed_tiles(self):
        for size in SIZES:
            for height in HEIGHTS:
                tiles = plain_tiles(size, height)
                for older in range(1, size + 1):
                    before = plain_tiles(older, height)
                    changed = [tile for tile, kept in tiles.items() if len(kept) != len(before.get(tile, []))]
                    self.assertEqual(changed_tiles(size, height, older), len(changed), (size, height, older))


class GreatTreesTest(unittest.TestCase):
    def test_widths_are_as_many_full_nodes_as_there_are(self):
        for size in GREAT[::2] + [MOST]:
            for height in (1, 2, 3, 8, 10, 16, 29, 30):
                for level in range(100 // height + 2):
                    there, full = great_numbers(size, height, level)
                    self.assertIn(there - full, (0, 1))
                    rest = tile_width(size, height, level, full)
                    # The full nodes of a height stand side by side from the first entry on.
                    self.assertEqual(full * 2 ** height + rest, size // 2 ** (level * height), (size, height, level))
                    for number in {0, 1, full // 2, full - 1} - {-1}:
                        width = 2 ** height if number < full else rest if number == full else 0
                        self.assertEqual(tile_width(size, height, level, number), width)

    def test_counts(self):
        for size in GREAT[1::2] + [MOST]:
            for height in (1, 2, 5, 8, 13, 30):
                numbers = [great_numbers(size, height, level) for level in range(101 // height + 1)]
                told = tuple(sum(column) for column in zip(*numbers))
                self.assertEqual(tile_count(size, height), told, (size, height))

    def test_all_heights(self):
        for height in range(1, 31):
            power = height * (90 // height)
            full = sum(2 ** (power - more) for more in range(height, 91, height))
            self.assertEqual(tile_count(2 ** power, height), (full + 1, full))
            self.assertEqual(tile_width(2 ** power, height, power // height, 0), 1)
            self.assertEqual(tile_width(2 ** power - 1, height, power // height, 0), 0)
            self.assertEqual(tile_width(2 ** power - 1, height, power // height - 1, 0), 2 ** height - 1)
            self.assertEqual(tile_count(1, height), (1, 0))
            self.assertEqual(tiles_of(2 ** power, height, [(0, 2 ** power)]), [(power // height, 0)])
            last = 2 ** (power - height) - 1
            self.assertEqual(tiles_of(2 ** power, height, [(2 ** power - 1, 2 ** power)]), [(0, last)])

    def test_levels_and_numbers_beyond(self):
        for size in (1, 7, 2 ** 99, MOST):
            for height in (1, 8, 30):
                for level, number in ((101, 0), (0, MOST), (0, 10 ** 99), (10 ** 99, 0), (10 ** 99, 10 ** 99),
                                      (10 ** 999, 0), (0, 10 ** 999), (2 ** 64, 0), (1, MOST), (99, 2)):
                    self.assertEqual(tile_width(size, height, level, number), 0, (size, height, level, number))
        self.assertEqual([tile_width(MOST, 1, level, 0) for level in (97, 98, 99, 100)], [2, 2, 1, 0])
        self.assertEqual([tile_width(MOST, 30, level, 0) for level in (2, 3, 4)], [2 ** 30, MOST // 2 ** 90, 0])

    def test_tiles_of(self):
        for size in GREAT[::5] + [MOST]:
            tops = plain_peaks(size)
            for entry in marked_entries(size)[::15]:
                line = plain_line(size, entry)
                full = [node for node in line if plain_full(node)][-60:]
                cut = [node for node in line if not plain_full(node)]
                for height in (1, 3, 8, 30):
                    self.assertEqual(tiles_of(size, height, full), sorted(great_sources(height, full)))
                    for node in cut[::4]:
                        parts = [peak for peak in tops if node[0] <= peak[0]]
                        self.assertEqual(tiles_of(size, height, [node]), sorted(great_sources(height, parts)))

    def test_tiles_of_edges_are_those_of_their_peaks(self):
        for size in GREAT:
            for begin, end in edges(size)[::3]:
                parts = [peak for peak in peaks(size) if peak[0] >= begin]
                for height in (1, 8, 30):
                    tiles = {tile for part in parts for tile in tiles_of(size, height, [part])}
                    self.assertEqual(tiles_of(size, height, [(begin, end)]), sorted(tiles))

    def test_the_tiles_are_there(self):
        for size in GREAT[::4]:
            for height in range(1, 31, 4):
                for level, number in tiles_of(size, height, [(0, size), *peaks(size)[:59]]):
                    self.assertGreater(tile_width(size, height, level, number), 0)

    def test_changed_tiles(self):
        for size in [MOST, 2 ** 99, 2 ** 64 + 1, 3 ** 62]:
            for height in (2, 8, 16, 30):
                bounds = [1, 2 ** 48, 2 ** 60 * 5, size // 2 ** (2 * height) * 2 ** (2 * height), size]
                for older in sorted({bound + more for bound in bounds for more in (-1, 0, 1, 2 ** height)}):
                    if 1 <= older <= size:
                        self.check_changed(size, height, older)

    def check_changed(self, size, height, older):
        """Count the changed tiles of each level by the widths beside the first and the last one."""
        changed = 0
        for level in range(100 // height + 2):
            there, _ = great_numbers(size, height, level)
            first = first_number(lambda number: number >= there or (
                tile_width(size, height, level, number) != tile_width(older, height, level, number)))
            changed += max(0, there - first)
        self.assertEqual(changed_tiles(size, height, older), changed, (size, height, older))

    def test_changes_at_the_bounds_of_tiles(self):
        for height in range(1, 31):
            size = 2 ** 99
            self.assertEqual(changed_tiles(size, height, size), 0)
            # One entry ends a tile of each level in which the last node is new, and begins the topmost one.
            self.assertEqual(changed_tiles(size, height, size - 1), 99 // height + 1)
            self.assertEqual(changed_tiles(size + 1, height, size), 1)
            self.assertEqual(changed_tiles(2 ** height, height, 2 ** height - 1), 2)
            self.assertEqual(changed_tiles(2 ** height + 1, height, 2 ** height), 1)
            self.assertEqual(changed_tiles(2 ** height + 2, height, 2 ** height + 1), 1 if height > 1 else 3)


if __name__ == "__main__":
    unittest.main()
