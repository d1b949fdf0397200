"""Points 6 and 7 and section 3 of the interface: depths and paths."""

import unittest

from logtrees.depths import depth, depth_range, depth_sum, first_of_depth, path, sizes_with
from tests.plain import (
    GREAT, MOST, SMALL, marked_entries, plain_depth, plain_depth_parts, plain_path, plain_peaks, plain_totals,
)


def stretches(sizes):
    """Cut ascending sizes into as few (first, last) as possible."""
    found = []
    for size in sizes:
        if found and found[-1][1] == size - 1:
            found[-1] = (found[-1][0], size)
        else:
            found.append((size, size))
    return found


class ExampleTest(unittest.TestCase):
    def test_first(self):
        self.assertEqual(
            [path(7, 5), path(7, 6), depth(7, 5), depth_sum(7, 0, 7), depth_range(7, 4, 7), first_of_depth(7, 2),
             first_of_depth(7, 4)],
            [[(4, 5), (6, 7), (0, 4)], [(4, 6), (0, 4)], 3, 20, (2, 3), 6, None])

    def test_second(self):
        self.assertEqual(
            ([sizes_with(5, number, 20) for number in (2, 3, 4, 5)], depth(10 ** 30, 0), depth(10 ** 30, 10 ** 30 - 1)),
            ([[(6, 6)], [(7, 8)], [(9, 16)], [(17, 20)]], 100, 66))


class SmallTreesTest(unittest.TestCase):
    def test_depth_and_path(self):
        for size in SMALL:
            for entry in range(size):
                self.assertEqual(depth(size, entry), plain_depth(size, entry), (size, entry))
                self.assertEqual(path(size, entry), plain_path(size, entry), (size, entry))

    def test_one_entry(self):
        self.assertEqual([depth(1, 0), path(1, 0), depth_sum(1, 0, 1), depth_range(1, 0, 1)], [0, [], 0, (0, 0)])
        self.assertEqual([first_of_depth(1, 0), first_of_depth(1, 1)], [0, None])

    def test_sums_and_ranges(self):
        for size in SMALL:
            depths = [plain_depth(size, entry) for entry in range(size)]
            for begin in range(size):
                for end in range(begin + 1, size + 1):
                    part = depths[begin:end]
                    self.assertEqual(depth_sum(size, begin, end), sum(part), (size, begin, end))
                    self.assertEqual(depth_range(size, begin, end), (min(part), max(part)), (size, begin, end))

    def test_first_of_depth(self):
        for size in SMALL:
            depths = [plain_depth(size, entry) for entry in range(size)]
            for number in range(-3, 12):
                first = depths.index(number) if number in depths else None
                self.assertEqual(first_of_depth(size, number), first, (size, number))

    def test_sizes_with(self):
        depths = {(size, entry): plain_depth(size, entry) for size in SMALL for entry in range(size)}
        for entry in SMALL:
            for number in range(-2, 9):
                sizes = [size for size in SMALL if size > entry and depths[size, entry] == number]
                for most in SMALL:
                    told = stretches([size for size in sizes if size <= most])
                    self.assertEqual(sizes_with(entry, number, most), told, (entry, number, most))

    def test_sizes_with_of_the_first_entry(self):
        for number in range(-1, 9):
            for most in SMALL:
                told = stretches([size for size in range(1, most + 1) if plain_depth(size, 0) == number])
                self.assertEqual(sizes_with(0, number, most), told, (number, most))


class GreatTreesTest(unittest.TestCase):
    def test_depth_and_path(self):
        for size in GREAT:
            for entry in marked_entries(size):
                self.assertEqual(depth(size, entry), plain_depth(size, entry), (size, entry))
                self.assertEqual(path(size, entry), plain_path(size, entry), (size, entry))

    def test_sums_and_ranges(self):
        known = {}
        for size in GREAT:
            marks = marked_entries(size)
            spans = [(0, size), (0, 1), (size - 1, size)]
            spans += [(begin, begin + 1) for begin in marks] + [(begin, size) for begin in marks]
            spans += [(begin, end) for begin, end in zip(marks, marks[5:])] + [(0, end) for end in marks[1:]]
            for begin, end in spans:
                parts = plain_depth_parts(size, begin, end)
                rows = [(node[1] - node[0], deep, plain_totals(node[1] - node[0], known)) for node, deep in parts]
                total = sum(width * deep + below[0] for width, deep, below in rows)
                least = min(deep + below[1] for _, deep, below in rows)
                greatest = max(deep + below[2] for _, deep, below in rows)
                self.assertEqual(depth_sum(size, begin, end), total, (size, begin, end))
                self.assertEqual(depth_range(size, begin, end), (least, greatest), (size, begin, end))

    def test_first_of_depth(self):
        for size in GREAT:
            # All entries of a full node have the same depth below it, so only a peak's begin can be the first one.
            depths = [(plain_depth(size, begin), begin) for begin, _ in plain_peaks(size)]
            for number in range(-1, 103):
                first = min((begin for deep, begin in depths if deep == number), default=None)
                self.assertEqual(first_of_depth(size, number), first, (size, number))

    def test_numbers_that_no_entry_has(self):
        for number in (-1, 101, 10 ** 99, -(10 ** 99), 10 ** 999, -(10 ** 999)):
            self.assertIsNone(first_of_depth(MOST, number))
            self.assertEqual(sizes_with(0, number, MOST), [])
            self.assertEqual(sizes_with(MOST - 1, number, MOST), [])

    def test_sizes_with_tells_where_the_depth_changes(self):
        entries = [entry for size in GREAT[::8] for entry in marked_entries(size)[::9]]
        for entry in [0, 1, 2, 3, 2 ** 99 - 1, 2 ** 99, MOST - 1, *entries]:
            behind = entry + 1
            for number in range(-1, 103):
                told = sizes_with(entry, number, MOST)
                if told:
                    (first, last), = told
                    self.assertEqual(first, behind, (entry, number))
                    self.assertEqual([plain_depth(size, entry) for size in (first, last)], [number, number])
                    if last < MOST:
                        self.assertEqual(plain_depth(last + 1, entry), number + 1)
                    behind = last + 1
            # Together the stretches of all numbers stand for all sizes, so none is left out.
            self.assertEqual(behind, MOST + 1, entry)

    def test_sizes_with_a_bound(self):
        entry, number = 2 ** 70 + 5, 2 ** 90
        self.assertEqual(sizes_with(entry, 91, 2 ** 99), [(2 ** 90 + 1, 2 ** 91)])
        self.assertEqual(sizes_with(entry, 91, number), [])
        self.assertEqual(sizes_with(entry, 91, number + 1), [(number + 1, number + 1)])
        self.assertEqual(sizes_with(entry, 91, 2 ** 91 - 1), [(number + 1, 2 ** 91 - 1)])
        self.assertEqual(sizes_with(entry, 91, 2 ** 91 + 1), [(number + 1, 2 ** 91)])

    def test_sizes_with_no_size_left(self):
        self.assertEqual(sizes_with(5, 2, 5), [])
        self.assertEqual(sizes_with(5, 2, 6), [(6, 6)])
        self.assertEqual(sizes_with(MOST - 1, 66, MOST), [(MOST, MOST)])
        self.assertEqual(sizes_with(MOST - 1, 66, MOST - 1), [])
        self.assertEqual(sizes_with(MOST - 1, 67, MOST), [])
        self.assertEqual(sizes_with(0, 100, MOST), [(2 ** 99 + 1, MOST)])


if __name__ == "__main__":
    unittest.main()
