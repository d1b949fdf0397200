"""Points 8, 10 and 13 and section 10 of the interface: what lists of nodes are worth to a reader of some entries."""

import unittest
from functools import lru_cache
from itertools import combinations, permutations, product

from logtrees.known import gives_root, missing
from logtrees.needs import needed
from logtrees.papers import first_wrong, lacking, serves, shows_needed
from logtrees.shapes import halves, peaks, sibling
from tests.plain import (
    FAR_INTEGERS, GREAT, MOST, NO_INTEGERS, marked_entries, plain_halves, plain_known, plain_line, plain_parts,
    plain_tree,
)
from tests.wrong_lists import NO_NODES, WRONG_NODES


def entries_of(stretches):
    return {entry for a, b in stretches for entry in range(a, b)}


def plain_needed(size, spans):
    """List the nodes of point 10 from the tree built node by node."""
    told = entries_of(spans)
    return sorted(node for node, above in plain_tree(size).items()
                  if above and told & set(range(*above)) and not told & set(range(*node)))


@lru_cache(maxsize=None)
def plain_serves(size, told, nodes):
    """Tell whether the root is known at last from nodes without told entries and the leaves of these."""
    known = plain_known(size, [*nodes, *[(entry, entry + 1) for entry in told]])
    return not entries_of(nodes) & set(told) and (0, size) in known


def plain_lacking(size, spans, nodes):
    """List the greatest nodes that have no entry of spans and none of the nodes."""
    told = entries_of([*spans, *nodes])
    free = [node for node in plain_tree(size) if not told & set(range(*node))]
    return sorted(node for node in free if not any(
        other != node and other[0] <= node[0] and node[1] <= other[1] for other in free))


def great_lacking(size, spans, nodes):
    """List the same by a descent from the root."""
    def untold(a, b):
        return all(end <= a or b <= begin for begin, end in [*spans, *nodes])

    def told(a, b):
        for begin, end in sorted([*spans, *nodes]):
            if begin <= a < end:
                a = end
        return b <= a

    return plain_parts((0, size), untold, told)


def span_lists(size, most, least=0):
    """Yield all lists of one to so many spans of the entries from least on."""
    for first, end in combinations(range(least, size + 1), 2):
        yield [(first, end)]
        if most > 1:
            for others in span_lists(size, most - 1, end):
                yield [(first, end), *others]


def changed(size, nodes):
    """List lists of nodes that are not the needed ones any more: one left out, doubled, parted, joined, one more."""
    found = [nodes + [(0, size)], nodes + [(0, 1)], [(size - 1, size)] + nodes]
    for place, node in enumerate(nodes):
        found.append(nodes[:place] + nodes[place + 1:])
        found.append(nodes[:place] + [node, node] + nodes[place + 1:])
        found.append([node] + nodes[:place] + [nodes[0]] + nodes[place + 1:] + [node])
        if node[1] - node[0] > 1:
            found.append(nodes[:place] + [*halves(size, node)] + nodes[place + 1:])
            found.append(nodes[:place] + [halves(size, node)[1]] + nodes[place + 1:])
        beside = sibling(size, node)
        if beside:
            found.append(nodes[:place] + [(min(node[0], beside[0]), max(node[1], beside[1]))] + nodes[place + 1:])
            found.append(nodes[:place] + [beside] + nodes[place + 1:])
    return [given for given in found if sorted(given) != sorted(nodes)]


class ExampleTest(unittest.TestCase):
    def test_first(self):
        self.assertEqual(
            [shows_needed(7, [(5, 6)], value)
             for value in [[(6, 7), (4, 5), (0, 4)], [(0, 4), (4, 5)], [(0, 2), (2, 4), (4, 5), (6, 7)], None]],
            [True, False, False, False])

    def test_second(self):
        self.assertEqual(
            [serves(7, [(5, 6)], [(0, 2), (2, 4), (4, 5), (6, 7)]), first_wrong(7, [(5, 6)], [(0, 4), (4, 7), (5, 6)]),
             lacking(7, [(5, 6)], [(0, 2), (6, 7)])],
            [True, 1, [(2, 4), (4, 5)]])


class ShowsNeededTest(unittest.TestCase):
    def test_small_trees(self):
        for size in range(1, 8):
            tree = sorted(plain_tree(size))
            for spans in span_lists(size, 2):
                wanted = plain_needed(size, spans)
                for many in range(min(len(tree), 4) + 1):
                    for nodes in combinations(tree, many):
                        told = shows_needed(size, spans, list(nodes))
                        self.assertIs(told, list(nodes) == wanted, (size, spans, nodes))

    def test_any_sequence(self):
        for size in (5, 7, 8, 11):
            for spans in span_lists(size, 2):
                wanted = plain_needed(size, spans)
                for nodes in permutations(wanted) if len(wanted) < 5 else [wanted[::-1], wanted[2:] + wanted[:2]]:
                    self.assertIs(shows_needed(size, spans, list(nodes)), True)
                    self.assertIs(shows_needed(size, spans, tuple(nodes)), False)

    def test_changed_lists(self):
        for size in range(1, 16):
            for spans in span_lists(size, 2 if size < 9 else 1):
                for nodes in changed(size, plain_needed(size, spans)):
                    self.assertIs(shows_needed(size, spans, nodes), False, (size, spans, nodes))

    def test_great_trees(self):
        for size in GREAT[::6] + [MOST]:
            marks = marked_entries(size)[1::19]
            lists = [[(mark, mark + 1)] for mark in marks] + [[(mark, mark + 1) for mark in marks[:12]], [(0, size)]]
            for spans in lists:
                nodes = needed(size, spans)
                for given in (nodes, nodes[::-1], nodes[1::2] + nodes[::2]):
                    self.assertIs(shows_needed(size, spans, given), True)
                for given in changed(size, nodes[:25]):
                    self.assertIs(shows_needed(size, spans, given + nodes[25:]), False)

    def test_more_nodes_than_a_list_of_nodes_may_have(self):
        spans = [(place * (2 ** 99 // 16) + 54321, place * (2 ** 99 // 16) + 54322) for place in range(12)]
        nodes = needed(2 ** 99, spans)
        self.assertGreater(len(nodes), 1000)
        self.assertIs(shows_needed(2 ** 99, spans, nodes[::-1]), True)
        self.assertIs(shows_needed(2 ** 99, spans, nodes[1:]), False)
        self.assertIs(shows_needed(2 ** 99, spans, nodes + nodes[:1]), False)

    def test_nothing_is_needed(self):
        for size in (1, 2, 7, 8, MOST):
            self.assertIs(shows_needed(size, [(0, size)], []), True)
            for value in ((), {}, "", None, False, 0, [[]], [()], [None], [(0, size)], b""):
                self.assertIs(shows_needed(size, [(0, size)], value), False, value)

    def test_any_value(self):
        for spans in ([(5, 6)], [(0, 1), (3, 4)], [(0, 7)]):
            nodes = needed(7, spans)
            others = [tuple(nodes), {0: nodes}, {node: 0 for node in nodes}, str(nodes)]
            for value in NO_INTEGERS + FAR_INTEGERS + others:
                self.assertIs(shows_needed(7, spans, value), value == nodes and value.__class__ is list, value)
            for value, _ in WRONG_NODES:
                self.assertIs(shows_needed(7, spans, value), False)
            for wrong in NO_NODES:
                for place in range(len(nodes)):
                    self.assertIs(shows_needed(7, spans, nodes[:place] + [wrong] + nodes[place + 1:]), False)
                self.assertIs(shows_needed(7, spans, nodes + [wrong]), False)
                self.assertIs(shows_needed(7, spans, [wrong] + nodes), False)
            self.assertIs(shows_needed(7, spans, [list(node) for node in nodes]), nodes == [])
            self.assertIs(shows_needed(7, spans, [str(node) for node in nodes]), nodes == [])

    def test_true_and_false_are_no_integers(self):
        self.assertIs(shows_needed(2, [(1, 2)], [(0, 1)]), True)
        for value in ([(False, 1)], [(0, True)], [(False, True)]):
            self.assertIs(shows_needed(2, [(1, 2)], value), False)
        self.assertIs(shows_needed(2, [(0, 1)], [(1, 2)]), True)
        self.assertIs(shows_needed(2, [(0, 1)], [(True, 2)]), False)
        self.assertIs(shows_needed(3, [(2, 3)], [(False, 2)]), False)

    def test_the_value_stays(self):
        value = [(6, 7), (0, 4), (4, 5)]
        self.assertIs(shows_needed(7, [(5, 6)], value), True)
        self.assertEqual(value, [(6, 7), (0, 4), (4, 5)])


class SmallTreesTest(unittest.TestCase):
    def check(self, size, spans, nodes):
        told = tuple(sorted(entries_of(spans)))
        given = list(nodes)
        wrong = [index for index, node in enumerate(given) if entries_of([node]) & set(told)]
        self.assertEqual(first_wrong(size, spans, given), wrong[0] if wrong else None, (size, spans, given))
        right = plain_serves(size, told, tuple(sorted({*given})))
        self.assertIs(serves(size, spans, given), right, (size, spans, given))
        self.assertEqual(lacking(size, spans, given), plain_lacking(size, spans, given), (size, spans, given))

    def test_all_lists_of_few_nodes(self):
        for size in range(1, 7):
            tree = sorted(plain_tree(size))
            for spans in span_lists(size, 2):
                for many in (1, 2, 3) if size < 6 else (1, 2):
                    for nodes in product(tree, repeat=many):
                        self.check(size, spans, nodes)

    def test_all_sets_of_nodes(self):
        for size in (4, 5):
            tree = sorted(plain_tree(size))
            for spans in span_lists(size, 3):
                for many in range(1, len(tree) + 1):
                    for nodes in combinations(tree, many):
                        self.check(size, spans, nodes[::-1])

    def test_changed_lists(self):
        for size in range(1, 14):
            for spans in span_lists(size, 2 if size < 8 else 1):
                wanted = plain_needed(size, spans)
                for nodes in [wanted, wanted[::-1], *changed(size, wanted)]:
                    if nodes:
                        self.check(size, spans, nodes)

    def test_lacking_nodes_are_the_fewest(self):
        for size in (3, 4, 5, 6):
            tree = sorted(plain_tree(size))
            for spans in span_lists(size, 2):
                told = tuple(sorted(entries_of(spans)))
                for nodes in combinations(tree, 1):
                    free = [node for node in tree if not entries_of([*spans, *nodes]) & set(range(*node))]
                    known = [*nodes, *[(entry, entry + 1) for entry in told]]
                    found = []
                    for many in range(len(free) + 1):
                        found = [list(more) for more in combinations(free, many)
                                 if (0, size) in plain_known(size, known + list(more))]
                        if found:
                            break
                    self.assertEqual([lacking(size, spans, list(nodes))], found, (size, spans, nodes))

    def test_a_wrong_node_serves_nobody(self):
        self.assertIs(serves(7, [(5, 6)], [(0, 4), (4, 6), (6, 7)]), False)
        self.assertIs(serves(7, [(5, 6)], [(0, 4), (4, 5), (6, 7), (5, 6)]), False)
        self.assertIs(serves(7, [(5, 6)], [(0, 7)]), False)
        self.assertEqual(lacking(7, [(5, 6)], [(0, 7)]), [])
        self.assertEqual(lacking(7, [(5, 6)], [(4, 6)]), [(0, 4), (6, 7)])
        self.assertEqual(first_wrong(7, [(0, 1), (6, 7)], [(1, 2), (2, 4), (4, 6), (4, 7), (0, 2)]), 3)

    def test_whole_logs(self):
        for size in (1, 2, 7, 8):
            for node in plain_tree(size):
                self.assertIs(serves(size, [(0, size)], [node]), False)
                self.assertEqual(first_wrong(size, [(0, size)], [node]), 0)
                self.assertEqual(lacking(size, [(0, size)], [node]), [])


class GreatTreesTest(unittest.TestCase):
    def lists(self, size):
        """Yield spans and nodes: what is needed, a part of it, with nodes more, and nodes with told entries."""
        marks = marked_entries(size)
        for place, mark in enumerate(marks[1::8]):
            beside = marks[place::max(1, len(marks) // 5)][:5]
            for spans in ([(mark, mark + 1)], [(entry, entry + 1) for entry in beside], [(mark, size)],
                          [*zip(beside, beside[1:])][::2]):
                nodes = needed(size, spans) if spans else []
                line = plain_line(size, mark)
                for given in (nodes, nodes[1:], nodes[::-1], nodes + [line[-1]], nodes[5:] + [line[len(line) // 2]],
                              [(0, size)], nodes[::2] + nodes[::4], nodes[:3] + [half for node in nodes[3:20]
                              for half in (plain_halves(node) if node[1] - node[0] > 1 else [node])]):
                    if spans and given:
                        yield spans, given[:60]

    def test_lists(self):
        for size in GREAT[::15] + [MOST]:
            for spans, nodes in self.lists(size):
                rest = great_lacking(size, spans, nodes)
                wrong = [index for index, (a, b) in enumerate(nodes)
                         if any(begin < b and a < end for begin, end in spans)]
                self.assertEqual(lacking(size, spans, nodes), rest, (size, spans, nodes))
                self.assertEqual(first_wrong(size, spans, nodes), wrong[0] if wrong else None)
                self.assertIs(serves(size, spans, nodes), not wrong and not rest, (size, spans, nodes))

    def test_lacking_nodes_make_a_list_serve(self):
        for size in GREAT[::9] + [MOST]:
            for spans, nodes in self.lists(size):
                rest = lacking(size, spans, nodes)
                if first_wrong(size, spans, nodes) is None and len(rest) + len(nodes) <= 60:
                    self.assertIs(serves(size, spans, rest + nodes), True)
                    self.assertEqual(lacking(size, spans, nodes + rest), [])
                    for index in range(min(4, len(rest))):
                        self.assertIs(serves(size, spans, nodes + rest[:index] + rest[index + 1:]), False)

    def test_one_entry(self):
        for size in (10, 2 ** 50 + 3, 2 ** 59):
            for entry in marked_entries(size)[::4]:
                nodes = needed(size, [(entry, entry + 1)])
                self.assertIs(serves(size, [(entry, entry + 1)], nodes), True)
                self.assertIs(gives_root(size, [*nodes[:59], (entry, entry + 1)]), len(nodes) < 60)
                self.assertEqual(lacking(size, [(entry, entry + 1)], nodes[:1]), nodes[1:])
                self.assertEqual(missing(size, [(entry, entry + 1)]), nodes)

    def test_peaks_beside_the_last_entry(self):
        for size in GREAT:
            tops = peaks(size)
            if len(tops) > 1 and tops[-1][1] - tops[-1][0] == 1:
                self.assertIs(serves(size, [(size - 1, size)], tops[:60]), False)
                self.assertEqual(first_wrong(size, [(size - 1, size)], tops[-60:]), len(tops[-60:]) - 1)
                if len(tops) <= 61:
                    self.assertIs(serves(size, [(size - 1, size)], tops[:-1]), True)


if __name__ == "__main__":
    unittest.main()
