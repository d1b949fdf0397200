"""Points 8 and 10 and section 4 of the interface: the needed nodes of some entries."""

import unittest
from itertools import combinations

from logtrees.errors import InvalidSpans
from logtrees.needs import needed, needed_both, needed_count, spared
from logtrees.shapes import is_node
from tests.plain import (
    GREAT, MOST, marked_entries, plain_depth, plain_depth_parts, plain_known, plain_parts, plain_totals, plain_tree,
)


def span_lists(size, most, least=0):
    """Yield all lists of at most so many spans of the entries from least on, the empty one as well."""
    yield []
    if most > 0:
        for first, end in combinations(range(least, size + 1), 2):
            for others in span_lists(size, most - 1, end):
                yield [(first, end), *others]


def told_entries(spans):
    return {entry for first, end in spans for entry in range(first, end)}


def plain_needed(size, spans):
    """List the nodes without told entries whose parent has some, from the tree built node by node."""
    told = told_entries(spans)
    has = {node: any(entry in told for entry in range(*node)) for node in plain_tree(size)}
    return sorted(node for node, above in plain_tree(size).items() if above and has[above] and not has[node])


def great_needed(size, spans):
    """List the same by a descent from the root that leaves out what is told, for trees that are too great to build."""
    def untold(a, b):
        return all(end <= a or b <= first for first, end in spans)

    def told(a, b):
        # Spans side by side tell a node together.
        for first, end in spans:
            if first <= a < end:
                a = end
        return b <= a

    return plain_parts((0, size), untold, told)


def great_lists(size, counts=(1, 2, 3, 6, 11, 12)):
    """List spans of single entries, of few and of many, side by side, of the whole log."""
    marks = marked_entries(size)
    found = [[(0, size)], [(0, 1)], [(size - 1, size)], [(0, size - 1)], [(1, size)], [(1, size - 1)]]
    found += [[(mark, mark + 1)] for mark in marks[::7]]
    for count in counts:
        picked = marks[1::max(1, len(marks) // count)][:count]
        beside = [*zip(picked, [*picked[1:], size])]
        found += [beside, beside[::2], beside[1::2], [(0, picked[0]), *beside[:11]]]
        found.append([(mark, mark + 1) for mark in picked])
        found.append([(mark, min(mark + 3, behind)) for mark, behind in beside])
        found.append([(mark + 1, behind) for mark, behind in beside if mark + 1 < behind])
        found.append([(mark, mark + 1) for mark in marks[-count:]])
        found.append([(mark, mark + 1) for mark in marks[:count]])
    return [spans for spans in found if spans]


class ExampleTest(unittest.TestCase):
    def test_first(self):
        self.assertEqual(
            [needed(7, [(2, 3), (5, 6)]), needed(7, [(2, 5)]), needed(7, [(0, 7)]), needed_both(7, [(2, 3)], [(5, 6)]),
             spared(7, [(2, 3), (5, 6)])],
            [[(0, 2), (3, 4), (4, 5), (6, 7)], [(0, 2), (5, 6), (6, 7)], [], 0, 2])

    def test_second(self):
        self.assertIs(
            needed_count(10 ** 30, [(10 ** 29, 2 * 10 ** 29)]) == len(needed(10 ** 30, [(10 ** 29, 2 * 10 ** 29)])),
            True)


class SmallTreesTest(unittest.TestCase):
    def check(self, size, spans):
        nodes = plain_needed(size, spans)
        depths = sum(plain_depth(size, entry) for entry in told_entries(spans))
        self.assertEqual(needed(size, spans), nodes, (size, spans))
        self.assertEqual(needed_count(size, spans), len(nodes), (size, spans))
        self.assertEqual(spared(size, spans), depths - len(nodes), (size, spans))

    def test_all_lists_of_spans(self):
        for size in range(1, 9):
            for spans in span_lists(size, 12):
                if spans:
                    self.check(size, spans)

    def test_one_span_and_two(self):
        for size in range(9, 17):
            for spans in span_lists(size, 2):
                if spans:
                    self.check(size, spans)

    def test_one_span_in_longer_logs(self):
        for size in (*range(17, 34), 47, 48, 63, 64, 65):
            for spans in span_lists(size, 1):
                if spans:
                    self.check(size, spans)

    def test_many_spans(self):
        for size in range(26, 41):
            for step, width in ((1, 1), (2, 1), (2, 2), (3, 1), (3, 2), (3, 3), (5, 2)):
                for begin in (0, 1, 2, 3, size - 2 * step):
                    spans = [(first, min(first + width, size)) for first in range(begin, size, step)][:12]
                    self.check(size, spans)
                    self.check(size, spans[1:])

    def test_spans_side_by_side_are_as_one(self):
        for size in range(2, 20):
            for first, middle, end in combinations(range(size + 1), 3):
                one, two = [(first, end)], [(first, middle), (middle, end)]
                self.assertEqual(needed(size, one), needed(size, two))
                self.assertEqual(spared(size, one), spared(size, two))
                self.assertEqual(needed_both(size, one, two), needed_count(size, one))

    def test_the_root_comes_from_them(self):
        for size in range(1, 8):
            for spans in span_lists(size, 12):
                if spans:
                    leaves = [(entry, entry + 1) for entry in told_entries(spans)]
                    nodes = needed(size, spans)
                    self.assertIn((0, size), plain_known(size, nodes + leaves))
                    for place in range(len(nodes)):
                        self.assertNotIn((0, size), plain_known(size, nodes[:place] + nodes[place + 1:] + leaves))

    def test_every_list_that_gives_the_root_makes_them_known(self):
        for size in range(1, 6):
            for spans in span_lists(size, 12):
                told = told_entries(spans)
                leaves = [(entry, entry + 1) for entry in told]
                others = [node for node in plain_tree(size) if not told & set(range(*node))]
                for many in range(len(others) + 1) if spans else []:
                    for nodes in combinations(others, many):
                        known = plain_known(size, [*nodes, *leaves])
                        if (0, size) in known:
                            self.assertLessEqual(set(needed(size, spans)), known)
                            self.assertGreaterEqual(many, needed_count(size, spans))

    def test_needed_both(self):
        for size in range(1, 6):
            nodes = [(spans, set(plain_needed(size, spans))) for spans in span_lists(size, 12) if spans]
            for spans, first in nodes:
                for others, second in nodes:
                    self.assertEqual(needed_both(size, spans, others), len(first & second), (size, spans, others))

    def test_needed_both_of_one_span_each(self):
        for size in range(6, 12):
            nodes = [(spans, set(plain_needed(size, spans))) for spans in span_lists(size, 1) if spans]
            for spans, first in nodes:
                for others, second in nodes:
                    self.assertEqual(needed_both(size, spans, others), len(first & second), (size, spans, others))


class GreatTreesTest(unittest.TestCase):
    def test_needed(self):
        for place, size in enumerate(GREAT):
            counts = (1, 2, 3, 4, 5, 6, 7, 8, 9, 10, 11, 12)[place % 4::4]
            for spans in great_lists(size, counts):
                nodes = great_needed(size, spans)
                self.assertEqual(needed(size, spans), nodes, (size, spans))
                self.assertEqual(needed_count(size, spans), len(nodes), (size, spans))

    def test_the_plain_descent(self):
        for size in range(1, 8):
            for spans in span_lists(size, 12):
                if spans:
                    self.assertEqual(great_needed(size, spans), plain_needed(size, spans), (size, spans))

    def test_spared(self):
        known = {}
        for size in GREAT[::2] + [MOST]:
            for spans in great_lists(size, (1, 5, 12)):
                depths = 0
                for first, end in spans:
                    for (a, b), deep in plain_depth_parts(size, first, end):
                        depths += (b - a) * deep + plain_totals(b - a, known)[0]
                self.assertEqual(spared(size, spans), depths - len(great_needed(size, spans)), (size, spans))

    def test_needed_both(self):
        for size in GREAT[::3] + [MOST]:
            lists = great_lists(size, (1, 12))
            for spans, others in zip(lists, lists[1:] + lists[:1]):
                both = set(great_needed(size, spans)) & set(great_needed(size, others))
                self.assertEqual(needed_both(size, spans, others), len(both), (size, spans, others))
                self.assertEqual(needed_both(size, others, spans), len(both), (size, spans, others))
                self.assertEqual(needed_both(size, spans, spans), needed_count(size, spans))

    def test_single_entries_need_their_paths(self):
        for size in GREAT[::3] + [MOST]:
            for entry in marked_entries(size)[::5]:
                self.assertEqual(needed_count(size, [(entry, entry + 1)]), plain_depth(size, entry))
                self.assertEqual(spared(size, [(entry, entry + 1)]), 0)

    def test_whole_logs(self):
        for size in GREAT:
            cuts = [size * part // 12 for part in range(13)]
            for spans in ([(0, size)], [(0, 1), (1, size)], [*zip(cuts, cuts[1:])]):
                self.assertEqual(needed(size, spans), [])
                self.assertEqual(needed_count(size, spans), 0)
                self.assertEqual(needed_both(size, spans, [(0, 1)]), 0)
        self.assertEqual(spared(2 ** 99, [(0, 2 ** 99)]), 99 * 2 ** 99)

    def test_edges_are_needed_whole(self):
        self.assertEqual(needed(2 ** 99 + 3, [(0, 2 ** 99)]), [(2 ** 99, 2 ** 99 + 3)])
        self.assertEqual(needed(2 ** 99 + 3, [(1, 2 ** 99)]), [(0, 1), (2 ** 99, 2 ** 99 + 3)])
        self.assertEqual(needed(2 ** 99 + 3, [(0, 2 ** 99 - 1)]), [(2 ** 99 - 1, 2 ** 99), (2 ** 99, 2 ** 99 + 3)])
        self.assertEqual(needed(2 ** 99 + 2, [(2 ** 99, 2 ** 99 + 1)]), [(0, 2 ** 99), (2 ** 99 + 1, 2 ** 99 + 2)])

    def test_an_answer_may_be_passed_on(self):
        for size in (7, 12, 2 ** 40 + 2 ** 20, MOST):
            for spans in ([(0, 1)], [(size - 1, size)], [(3, size - 1)], [(0, 2), (3, size)]):
                nodes = needed(size, spans)
                self.assertTrue(all(is_node(size, node) for node in nodes))
                if 1 <= len(nodes) <= 12:
                    self.assertEqual(told_of(size, needed(size, nodes)), told_of(size, spans))
                elif nodes:
                    self.assertRaises(InvalidSpans, needed, size, nodes)


def told_of(size, stretches):
    """Join stretches that stand side by side, so that lists of the same entries are equal."""
    found = []
    for first, end in stretches:
        if found and found[-1][1] == first:
            first = found.pop()[0]
        found.append((first, end))
    return found


if __name__ == "__main__":
    unittest.main()
