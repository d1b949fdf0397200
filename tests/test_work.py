"""Points 5, 6, 9 and 12 and section 7 of the interface: the sums of growing logs and of their roots."""

import unittest
from functools import lru_cache
from itertools import combinations_with_replacement

from logtrees.shapes import edges, node_count
from logtrees.work import append_sums, cheapest, costliest, root_sums, roots_by_steps, roots_total
from tests.plain import GREAT, MOST, plain_full, plain_tree

LONG = 220


@lru_cache(maxsize=None)
def plain_counts(size):
    """Return (full nodes with two or more entries, edges) of the tree built node by node."""
    tree = plain_tree(size)
    full = [node for node in tree if plain_full(node)]
    return sum(b - a > 1 for a, b in full), len(tree) - len(full)


def ones(size):
    """Return how many edges a size has, for sizes whose trees are too great to build."""
    return bin(size).count("1") - 1


def plain_best(low, high, most):
    """Return the (root_sums, size) of a stretch by its digits, from the first one on."""
    width = high.bit_length()
    # From the end on: the best (count, value) of the digits from a place on, beside low or not, beside high or not.
    rows = {(True, True): (0, 0), (True, False): (0, 0), (False, True): (0, 0), (False, False): (0, 0)}
    for place in range(width):
        digits, before = ((low >> place) & 1, (high >> place) & 1), rows
        rows = {}
        for at_low in (True, False):
            for at_high in (True, False):
                found = []
                for digit in (0, 1):
                    if not (at_low and digit < digits[0]) and not (at_high and digit > digits[1]):
                        rest = before[at_low and digit == digits[0], at_high and digit == digits[1]]
                        if rest:
                            found.append((rest[0] + digit, rest[1] + (digit << place)))
                key = (lambda row: (-row[0], row[1])) if most else (lambda row: row)
                rows[at_low, at_high] = min(found, key=key) if found else None
    count, value = rows[True, True]
    return count - 1, value


class ExampleTest(unittest.TestCase):
    def test_first(self):
        self.assertEqual(
            [append_sums(1, 6), append_sums(6, 2), [root_sums(size) for size in range(1, 8)], roots_total(1, 7),
             roots_by_steps(1, 2, 3)],
            [4, 3, [0, 0, 1, 0, 1, 1, 2], 5, 4])

    def test_second(self):
        self.assertEqual(
            [cheapest(5, 7), costliest(5, 12), cheapest(5, 20), roots_total(1, 10 ** 30) > 45 * 10 ** 30],
            [(1, 5), (2, 7), (0, 8), True])


class SmallSizesTest(unittest.TestCase):
    def test_append_sums(self):
        for size in range(1, LONG):
            for number in range(LONG - size):
                more = plain_counts(size + number)[0] - plain_counts(size)[0]
                self.assertEqual(append_sums(size, number), more, (size, number))

    def test_append_sums_are_nodes_that_come(self):
        for size in range(1, 40):
            for number in range(40):
                come = set(plain_tree(size + number)) - set(plain_tree(size))
                full = [node for node in come if plain_full(node) and node[1] - node[0] > 1]
                self.assertEqual(append_sums(size, number), len(full))

    def test_root_sums(self):
        for size in range(1, LONG):
            self.assertEqual(root_sums(size), plain_counts(size)[1], size)

    def test_all_stretches(self):
        sums = [None] + [plain_counts(size)[1] for size in range(1, LONG)]
        for low, high in combinations_with_replacement(range(1, 131), 2):
            part = sums[low:high + 1]
            self.assertEqual(roots_total(low, high), sum(part), (low, high))
            self.assertEqual(cheapest(low, high), (min(part), low + part.index(min(part))), (low, high))
            self.assertEqual(costliest(low, high), (max(part), low + part.index(max(part))), (low, high))
        for low in (1, 2, 3, 7, 8, 63, 64, 65, 127, 128, 129, 200):
            for high in range(low, LONG):
                part = sums[low:high + 1]
                self.assertEqual(roots_total(low, high), sum(part), (low, high))
                self.assertEqual(cheapest(low, high), (min(part), low + part.index(min(part))), (low, high))
                self.assertEqual(costliest(low, high), (max(part), low + part.index(max(part))), (low, high))

    def test_steps(self):
        sums = [None] + [plain_counts(size)[1] for size in range(1, LONG)]
        for size in range(1, 48):
            for step in range(1, 48):
                for number in range((LONG - 1 - size) // step + 1):
                    part = sums[size + step:size + step * number + 1:step]
                    self.assertEqual(len(part), number)
                    self.assertEqual(roots_by_steps(size, step, number), sum(part), (size, step, number))

    def test_no_steps(self):
        for size in [*range(1, 20), *GREAT]:
            for step in (1, 2, 7, 2 ** 50, MOST, 10 ** 99, 10 ** 999):
                self.assertEqual(roots_by_steps(size, step, 0), 0)
            self.assertEqual(append_sums(size, 0), 0)

    def test_the_plain_digits(self):
        for low, high in combinations_with_replacement(range(1, 70), 2):
            part = [ones(size) for size in range(low, high + 1)]
            self.assertEqual(plain_best(low, high, False), (min(part), low + part.index(min(part))))
            self.assertEqual(plain_best(low, high, True), (max(part), low + part.index(max(part))))


class GreatSizesTest(unittest.TestCase):
    def test_root_sums(self):
        for size in GREAT:
            self.assertEqual(root_sums(size), ones(size))
            self.assertEqual(root_sums(size), len(edges(size)))
            self.assertEqual(roots_total(size, size), ones(size))
            self.assertEqual(cheapest(size, size), (ones(size), size))
            self.assertEqual(costliest(size, size), (ones(size), size))
            if size > 1:
                self.assertEqual(roots_by_steps(1, size - 1, 1), ones(size))

    def test_append_sums(self):
        for size in GREAT:
            for number in {0, 1, 2, 3, size, 2 * size, MOST - size, 2 ** 60, 3 ** 40, (MOST - size) // 3}:
                if size + number <= MOST:
                    more = node_count(size + number)[0] - node_count(size)[0] - number
                    self.assertEqual(append_sums(size, number), more, (size, number))
                    # One entry more makes as many full nodes as the last digits 1 of the size.
                    if number == 1:
                        last = len(bin(size)) - len(bin(size).rstrip("1"))
                        self.assertEqual(more, last)

    def test_append_sums_add_up(self):
        for size in GREAT[::2]:
            for first in (1, 7, size, 10 ** 20):
                for second in (0, 1, 6, size + 1, 10 ** 25):
                    if size + first + second <= MOST:
                        whole = append_sums(size, first) + append_sums(size + first, second)
                        self.assertEqual(append_sums(size, first + second), whole)
        self.assertEqual(append_sums(1, 2 ** 99 - 1), 2 ** 99 - 1)
        self.assertEqual(append_sums(2 ** 99 - 1, 1), 99)

    def test_short_stretches(self):
        for size in GREAT:
            for low, high in ((size - 40, size + 40), (size, size + 70), (size - 33, size), (size - 1, size + 1)):
                if 1 <= low and high <= MOST:
                    part = [ones(other) for other in range(low, high + 1)]
                    self.assertEqual(roots_total(low, high), sum(part))
                    self.assertEqual(cheapest(low, high), (min(part), low + part.index(min(part))))
                    self.assertEqual(costliest(low, high), (max(part), low + part.index(max(part))))

    def test_all_digits(self):
        for power in range(1, 100):
            # Half of all digits of the numbers below a power of two are 1.
            self.assertEqual(roots_total(1, 2 ** power - 1), power * 2 ** (power - 1) - 2 ** power + 1)
            self.assertEqual(roots_total(2 ** (power - 1), 2 ** power - 1), (power - 1) * 2 ** (power - 1) // 2)

    def test_stretches_cut_in_two(self):
        marks = sorted({1, 2, *GREAT[::3], MOST // 7, MOST})
        for low, middle, high in zip(marks, marks[3:], marks[9:]):
            for cut in (low, middle, middle + 1, high - 1, (low + high) // 2):
                both = roots_total(low, cut) + roots_total(cut + 1, high)
                self.assertEqual(roots_total(low, high), both)
                for function, choose in ((cheapest, min), (costliest, max)):
                    parts = [function(low, cut), function(cut + 1, high)]
                    best = choose(count for count, _ in parts)
                    self.assertEqual(function(low, high), min(part for part in parts if part[0] == best))

    def test_steps_of_one_are_the_whole_stretch(self):
        for low, high in zip([1, *GREAT], [*GREAT[1:], MOST]):
            self.assertEqual(roots_by_steps(low, 1, high - low), roots_total(low, high) - root_sums(low))

    def test_few_steps(self):
        for size in GREAT[::2] + [1]:
            for step in (1, 2, 3, 2 ** 40, 2 ** 40 - 1, 2 ** 70 + 1, 3 ** 50, 10 ** 28, (MOST - size) // 50 or 1):
                for number in {1, 2, 3, 30, 50}:
                    if size + step * number <= MOST:
                        part = [ones(size + step * turn) for turn in range(1, number + 1)]
                        self.assertEqual(roots_by_steps(size, step, number), sum(part), (size, step, number))

    def test_many_steps_cut_in_two(self):
        for size in [*GREAT[::4], 1, 2]:
            for step in (1, 2, 3, 5, 1000, 2 ** 20, 2 ** 20 + 1, 3 ** 30, 7 ** 25, 10 ** 14 + 7):
                most = (MOST - size) // step
                for number in {most, most // 2, min(most, 10 ** 15)}:
                    for first in {0, number // 3, number}:
                        both = roots_by_steps(size, step, first)
                        both += roots_by_steps(size + step * first, step, number - first)
                        self.assertEqual(roots_by_steps(size, step, number), both, (size, step, number, first))

    def test_steps_side_by_side(self):
        for size in [*GREAT[::5], 1, 2]:
            for step in (2, 3, 5, 8, 13):
                number = (MOST - size) // step - 1
                if number > 0:
                    beside = sum(roots_by_steps(size + more, step, number) for more in range(step))
                    self.assertEqual(beside, roots_total(size + step, size + step * (number + 1) - 1))

    def test_steps_of_powers_of_two(self):
        for size in (1, 5, 2 ** 30 + 3, 3 ** 40, 10 ** 20 + 1):
            for power in (1, 4, 31, 60, 64):
                number = (MOST - size) >> power
                # The digits below the power stay, the others count on.
                rest, above = size % 2 ** power, size >> power
                total = roots_total(above + 1, above + number) + number * bin(rest).count("1")
                self.assertEqual(roots_by_steps(size, 2 ** power, number), total)

    def test_great_stretches(self):
        marks = sorted({1, 3, *GREAT[::2], MOST // 7, 2 ** 98 + 12345, MOST})
        for low in marks:
            for high in marks[2::3]:
                if low <= high:
                    self.assertEqual(cheapest(low, high), plain_best(low, high, False), (low, high))
                    self.assertEqual(costliest(low, high), plain_best(low, high, True), (low, high))

    def test_ends(self):
        self.assertEqual([cheapest(1, MOST), costliest(1, MOST)], [(0, 1), (98, 2 ** 99 - 1)])
        self.assertEqual(cheapest(2 ** 98 + 1, MOST), (0, 2 ** 99))
        self.assertEqual(cheapest(2 ** 99 + 1, MOST), (1, 2 ** 99 + 1))
        self.assertEqual(cheapest(2 ** 99 - 2 ** 50 + 1, 2 ** 99 - 1), (49, 2 ** 99 - 2 ** 50 + 1))
        self.assertEqual(costliest(2 ** 99 - 1, MOST), (98, 2 ** 99 - 1))
        self.assertEqual(costliest(2 ** 99, 2 ** 99 + 2), (1, 2 ** 99 + 1))
        self.assertEqual(roots_total(MOST, MOST), 36)


if __name__ == "__main__":
    unittest.main()
