"""Points 2 to 4: wrong values, the sequence of the errors, new lists, and the names of the interface."""

import copy
import inspect
import unittest

from logtrees import compact, depths, needs, older, shapes
from logtrees.errors import (
    InvalidBounds, InvalidEntry, InvalidNode, InvalidNumber, InvalidSize, InvalidSpan, InvalidSpans, LogError,
)
from tests.plain import FAR_INTEGERS, GREAT, MOST, NO_INTEGERS, NO_SIZES, marked_entries, no_nodes, plain_tree
from tests.wrong_lists import WRONG_BOUNDS, WRONG_SPANS

NO_ENTRIES = NO_INTEGERS + FAR_INTEGERS + [7, 8]
NO_ENDS = NO_INTEGERS + FAR_INTEGERS + [8, 9, 3, 2, 0]
NO_OLDER = NO_SIZES + [8, 9]
NO_BEGINS = NO_INTEGERS + FAR_INTEGERS + [11, 12, MOST]
NO_FAR_ENDS = NO_INTEGERS + FAR_INTEGERS + [0, 2, 3]
NO_SPANS = [value for value, _ in WRONG_SPANS]
NO_BOUNDS = [value for value, _ in WRONG_BOUNDS]

# Each function with right arguments, and for each parameter that has an error the error and wrong values.
CALLS = [
    (shapes.peaks, (7,), [(InvalidSize, NO_SIZES)]),
    (shapes.edges, (7,), [(InvalidSize, NO_SIZES)]),
    (shapes.is_node, (7, (4, 7)), [(InvalidSize, NO_SIZES)]),
    (shapes.halves, (7, (4, 7)), [(InvalidSize, NO_SIZES), (InvalidNode, no_nodes(7))]),
    (shapes.parent, (7, (4, 7)), [(InvalidSize, NO_SIZES), (InvalidNode, no_nodes(7))]),
    (shapes.sibling, (7, (4, 7)), [(InvalidSize, NO_SIZES), (InvalidNode, no_nodes(7))]),
    (shapes.node_count, (7,), [(InvalidSize, NO_SIZES)]),
    (shapes.common_count, (7, 5), [(InvalidSize, NO_SIZES), (InvalidSize, NO_SIZES)]),
    (shapes.height_count, (7, 1), [(InvalidSize, NO_SIZES), (InvalidNumber, NO_INTEGERS)]),
    (depths.depth, (7, 5), [(InvalidSize, NO_SIZES), (InvalidEntry, NO_ENTRIES)]),
    (depths.path, (7, 5), [(InvalidSize, NO_SIZES), (InvalidEntry, NO_ENTRIES)]),
    (depths.depth_sum, (7, 3, 6), [(InvalidSize, NO_SIZES), (InvalidSpan, NO_ENTRIES), (InvalidSpan, NO_ENDS)]),
    (depths.depth_range, (7, 3, 6), [(InvalidSize, NO_SIZES), (InvalidSpan, NO_ENTRIES), (InvalidSpan, NO_ENDS)]),
    (depths.first_of_depth, (7, 2), [(InvalidSize, NO_SIZES), (InvalidNumber, NO_INTEGERS)]),
    (depths.sizes_with, (5, 3, 20), [
        (InvalidEntry, NO_INTEGERS + FAR_INTEGERS + [MOST]), (InvalidNumber, NO_INTEGERS), (InvalidSize, NO_SIZES),
    ]),
    (needs.needed, (7, [(2, 3), (5, 6)]), [(InvalidSize, NO_SIZES), (InvalidSpans, NO_SPANS)]),
    (needs.needed_count, (7, [(2, 3), (5, 6)]), [(InvalidSize, NO_SIZES), (InvalidSpans, NO_SPANS)]),
    (needs.needed_both, (7, [(2, 3)], [(0, 1), (5, 6)]), [
        (InvalidSize, NO_SIZES), (InvalidSpans, NO_SPANS), (InvalidSpans, NO_SPANS),
    ]),
    (needs.spared, (7, [(2, 3), (5, 6)]), [(InvalidSize, NO_SIZES), (InvalidSpans, NO_SPANS)]),
    (older.older_list, (7, 3), [(InvalidSize, NO_SIZES), (InvalidSize, NO_OLDER)]),
    (older.older_count, (7, 3), [(InvalidSize, NO_SIZES), (InvalidSize, NO_OLDER)]),
    (older.longest_older, (7,), [(InvalidSize, NO_SIZES)]),
    (compact.compact, (3, 11), [(InvalidSpan, NO_BEGINS), (InvalidSpan, NO_FAR_ENDS)]),
    (compact.compact_count, (3, 11), [(InvalidSpan, NO_BEGINS), (InvalidSpan, NO_FAR_ENDS)]),
    (compact.greatest, (3, 11), [(InvalidSpan, NO_BEGINS), (InvalidSpan, NO_FAR_ENDS)]),
    (compact.join_sums, ([3, 11, 12],), [(InvalidBounds, NO_BOUNDS)]),
]

# The functions that take lists, each with right arguments, the place of a list, and wrong values with their items.
LISTS = [
    (needs.needed, (7, [(2, 3)]), 1, WRONG_SPANS), (needs.needed_count, (7, [(2, 3)]), 1, WRONG_SPANS),
    (needs.needed_both, (7, [(2, 3)], [(5, 6)]), 1, WRONG_SPANS), (needs.spared, (7, [(2, 3)]), 1, WRONG_SPANS),
    (needs.needed_both, (7, [(2, 3)], [(5, 6)]), 2, WRONG_SPANS), (compact.join_sums, ([3, 11],), 0, WRONG_BOUNDS),
]

PARAMETERS = {
    shapes: {
        "peaks": ["size"], "edges": ["size"], "is_node": ["size", "value"], "halves": ["size", "node"],
        "parent": ["size", "node"], "sibling": ["size", "node"], "node_count": ["size"],
        "common_count": ["size", "other"], "height_count": ["size", "number"],
    },
    depths: {
        "depth": ["size", "entry"], "path": ["size", "entry"], "depth_sum": ["size", "begin", "end"],
        "depth_range": ["size", "begin", "end"], "first_of_depth": ["size", "number"],
        "sizes_with": ["entry", "number", "most"],
    },
    needs: {
        "needed": ["size", "spans"], "needed_count": ["size", "spans"], "needed_both": ["size", "spans", "others"],
        "spared": ["size", "spans"],
    },
    older: {"older_list": ["size", "older"], "older_count": ["size", "older"], "longest_older": ["size"]},
    compact: {
        "compact": ["begin", "end"], "compact_count": ["begin", "end"], "greatest": ["begin", "end"],
        "join_sums": ["bounds"],
    },
}


class WrongValuesTest(unittest.TestCase):
    def check(self, function, arguments, kind):
        """Expect an error of exactly one class, and that the arguments stay as they were."""
        before = repr(arguments)
        with self.assertRaises(LogError, msg=f"{function.__name__}{arguments}") as caught:
            function(*arguments)
        self.assertIs(caught.exception.__class__, kind, f"{function.__name__}{arguments}")
        self.assertIsInstance(caught.exception, ValueError)
        self.assertEqual(repr(arguments), before)

    def test_right_values_raise_nothing_and_stay(self):
        for function, arguments, _ in CALLS:
            with self.subTest(function=function.__name__):
                before = copy.deepcopy(arguments)
                function(*arguments)
                self.assertEqual(arguments, before)

    def test_each_parameter_alone(self):
        for function, arguments, wrongs in CALLS:
            for place, (kind, values) in enumerate(wrongs):
                for value in values:
                    self.check(function, (*arguments[:place], value, *arguments[place + 1:]), kind)

    def test_several_at_once(self):
        for function, arguments, wrongs in CALLS:
            for place, (kind, values) in enumerate(wrongs):
                for behind, (_, others) in list(enumerate(wrongs))[place + 1:]:
                    for value in values:
                        for other in (None, True, "", [], others[-1]):
                            given = list(arguments)
                            given[place], given[behind] = value, other
                            self.check(function, tuple(given), kind)

    def test_all_at_once(self):
        for function, arguments, wrongs in CALLS:
            for value in (None, True, False, "7", [7], (), {}, b"7"):
                self.check(function, (value,) * len(arguments), wrongs[0][0])

    def test_a_wrong_size_of_is_node_goes_first(self):
        for value in no_nodes(7):
            self.check(shapes.is_node, (0, value), InvalidSize)

    def test_nodes_of_other_trees(self):
        for size in range(1, 20):
            tree = plain_tree(size)
            for other in range(1, 20):
                for node in plain_tree(other):
                    if node not in tree:
                        for function in (shapes.halves, shapes.parent, shapes.sibling):
                            self.check(function, (size, node), InvalidNode)

    def test_ranges_at_their_ends(self):
        for size in [*range(1, 20), *GREAT]:
            depths.depth(size, 0), depths.depth(size, size - 1), depths.depth_sum(size, 0, size)
            for entry in (-1, size, size + 1):
                self.check(depths.depth, (size, entry), InvalidEntry)
                self.check(depths.path, (size, entry), InvalidEntry)
            wrong = [(-1, 1), (size, size), (size, size + 1), (0, 0), (0, size + 1), (size - 1, size - 1)]
            for function in (depths.depth_sum, depths.depth_range):
                for begin, end in wrong:
                    self.check(function, (size, begin, end), InvalidSpan)
        for function in (shapes.peaks, shapes.edges, shapes.node_count):
            function(1), function(MOST)
            self.check(function, (0,), InvalidSize)
            self.check(function, (MOST + 1,), InvalidSize)

    def test_the_bounds_of_sizes_with(self):
        depths.sizes_with(0, 0, 1), depths.sizes_with(MOST - 1, 0, MOST)
        self.check(depths.sizes_with, (MOST, 0, MOST), InvalidEntry)
        self.check(depths.sizes_with, (-1, 0, MOST), InvalidEntry)
        self.check(depths.sizes_with, (0, 0, 0), InvalidSize)
        self.check(depths.sizes_with, (0, 0, MOST + 1), InvalidSize)


    def test_older_sizes_at_their_ends(self):
        for size in [*range(1, 20), *GREAT]:
            for function in (older.older_list, older.older_count):
                function(size, 1), function(size, size)
                for other in (0, -1, size + 1, 2 * size):
                    self.check(function, (size, other), InvalidSize)

    def test_stretches_at_their_ends(self):
        for function in (compact.compact, compact.compact_count, compact.greatest):
            function(0, 1), function(0, MOST), function(MOST - 1, MOST)
            wrong = [(-1, 1), (0, 0), (5, 5), (5, 4), (MOST, MOST), (MOST, MOST + 1), (0, MOST + 1), (1, 0)]
            for begin, end in wrong + [(MOST - 1, MOST + 1), (2 ** 100, 2 ** 100 + 1), (-2, -1), (-1, MOST)]:
                self.check(function, (begin, end), InvalidSpan)


class WrongListsTest(unittest.TestCase):
    def check(self, function, arguments, kind, item):
        """Expect an error of exactly one class with a field, and that the arguments stay as they were."""
        before = repr(arguments)
        with self.assertRaises(LogError, msg=f"{function.__name__}{arguments}") as caught:
            function(*arguments)
        self.assertIs(caught.exception.__class__, kind, f"{function.__name__}{arguments}")
        self.assertEqual(vars(caught.exception), {"item": item}, f"{function.__name__}{arguments}")
        self.assertEqual(repr(arguments), before)

    def test_the_first_wrong_item(self):
        for function, arguments, place, values in LISTS:
            kind = InvalidBounds if values is WRONG_BOUNDS else InvalidSpans
            for value, item in values:
                self.check(function, (*arguments[:place], value, *arguments[place + 1:]), kind, item)

    def test_spans_go_ahead_of_others(self):
        for value, item in WRONG_SPANS:
            for other, _ in WRONG_SPANS[::40]:
                self.check(needs.needed_both, (7, value, other), InvalidSpans, item)

    def test_how_many_spans(self):
        spans = [(2 * place, 2 * place + 1) for place in range(60)]
        for function in (needs.needed, needs.needed_count, needs.spared):
            function(120, spans[:1]), function(120, spans[:12])
            for many in (0, 13, 14, 60):
                self.check(function, (120, spans[:many]), InvalidSpans, None)
        for many in (0, 13, 60):
            self.check(needs.needed_both, (120, spans[:12], spans[:many]), InvalidSpans, None)
            self.check(needs.needed_both, (120, spans[:many], spans[:12]), InvalidSpans, None)

    def test_spans_of_other_logs(self):
        for size in [*range(1, 12), *GREAT]:
            needs.needed(size, [(0, size)]), needs.needed(size, [(size - 1, size)])
            for wrong in ((0, size + 1), (size, size + 1), (size, size), (-1, size), (size - 1, size + 1)):
                self.check(needs.needed, (size, [wrong]), InvalidSpans, 0)
                self.check(needs.spared, (size, [wrong]), InvalidSpans, 0)
                self.check(needs.needed_both, (size, [(0, size)], [wrong]), InvalidSpans, 0)
            self.check(needs.needed, (size, [(0, size), (size, size + 1)]), InvalidSpans, 1)

    def test_the_wrong_item_at_each_place(self):
        spans = [(3 * place, 3 * place + 2) for place in range(12)]
        for place in range(12):
            first, end = spans[place]
            for wrong in (None, [first, end], (first, first), (first, end, end), (first - 2, end), (first, MOST + 1)):
                given = [*spans[:place], wrong, *spans[place + 1:]]
                self.check(needs.needed, (MOST, given), InvalidSpans, place)
                self.check(needs.needed, (MOST, [*given[:place + 1], *[None] * (11 - place)]), InvalidSpans, place)

    def test_how_many_bounds(self):
        bounds = list(range(5, 65))
        compact.join_sums(bounds[:2]), compact.join_sums(bounds[:12]), compact.join_sums([0, MOST])
        for many in (0, 1, 13, 14, 60):
            self.check(compact.join_sums, (bounds[:many],), InvalidBounds, None)

    def test_the_wrong_bound_at_each_place(self):
        bounds = list(range(5, 65, 5))
        for place in range(12):
            bound = bounds[place]
            for wrong in (None, True, -1, MOST + 1, [bound], str(bound), bounds[place - 1] if place else -5):
                given = [*bounds[:place], wrong, *bounds[place + 1:]]
                self.check(compact.join_sums, (given,), InvalidBounds, place)
                self.check(compact.join_sums, ([*given[:place + 1], *[0] * (11 - place)],), InvalidBounds, place)
        self.check(compact.join_sums, ([*bounds[:6], bounds[7], bounds[6], *bounds[8:]],), InvalidBounds, 7)


class ListsTest(unittest.TestCase):
    def test_each_returned_list_is_a_new_one(self):
        calls = [(shapes.peaks, (7,)), (shapes.edges, (7,)), (shapes.edges, (8,)), (depths.path, (7, 5)),
                 (depths.path, (1, 0)), (depths.sizes_with, (5, 3, 20)), (depths.sizes_with, (5, 3, 5)),
                 (needs.needed, (7, [(2, 3)])), (needs.needed, (7, [(0, 7)])), (older.older_list, (7, 3)),
                 (older.older_list, (7, 7)), (older.older_list, (7, 4)), (compact.compact, (3, 11)),
                 (compact.compact, (0, 8))]
        for function, arguments in calls:
            first = function(*arguments)
            kept = copy.deepcopy(first)
            self.assertIsInstance(first, list)
            first.append("more")
            first.reverse()
            self.assertEqual(function(*arguments), kept, function.__name__)

    def test_kinds_of_values(self):
        for size in (1, 7, 8, MOST):
            for entry in marked_entries(size)[:3]:
                nodes = shapes.peaks(size) + shapes.edges(size) + depths.path(size, entry)
                nodes += needs.needed(size, [(entry, entry + 1)]) + older.older_list(size, entry + 1)
                nodes += compact.compact(entry, size) + [compact.greatest(entry, size)]
                self.assertTrue(all(node.__class__ is tuple and len(node) == 2 for node in nodes))
            self.assertIs(shapes.node_count(size).__class__, tuple)
            self.assertIs(older.longest_older(size).__class__, tuple)
            self.assertIs(depths.depth_range(size, 0, size).__class__, tuple)
            self.assertIs(shapes.halves(size, (0, size)).__class__, tuple if size > 1 else None.__class__)

    def test_no_answer_depends_on_calls_before(self):
        before = [repr(function(*arguments)) for function, arguments, _ in CALLS]
        after = [repr(function(*arguments)) for function, arguments, _ in reversed(CALLS)]
        self.assertEqual(before, after[::-1])


class InterfaceTest(unittest.TestCase):
    def test_names_and_parameters(self):
        for module, functions in PARAMETERS.items():
            for name, parameters in functions.items():
                with self.subTest(module=module.__name__, name=name):
                    function = getattr(module, name)
                    self.assertEqual(function.__module__, module.__name__)
                    self.assertEqual(list(inspect.signature(function).parameters), parameters)


if __name__ == "__main__":
    unittest.main()
