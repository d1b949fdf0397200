"""Points 2 to 4: wrong values, the sequence of the errors, new lists, and the names of the interface."""

import copy
import inspect
import unittest

from logtrees import compact, depths, known, live, needs, older, papers, shapes, texts, tiles, work
from logtrees.errors import (
    InvalidBounds, InvalidEntry, InvalidHeight, InvalidNode, InvalidNodes, InvalidNumber, InvalidSize, InvalidSpan,
    InvalidSpans, LogError,
)
from tests.calls import CALLS, CLASSES, LISTS, PARAMETERS
from tests.plain import GREAT, MOST, marked_entries, no_nodes, plain_tree
from tests.wrong_lists import NODES, WRONG_BOUNDS, WRONG_SPANS


class WrongValuesTest(unittest.TestCase):
    def check(self, function, arguments, kind):
        """Expect an error of exactly one class, and that the arguments stay as they were."""
        before = repr(arguments)
        with self.assertRaises(LogError, msg=f"{function.__name__}{arguments}") as caught:
            function(*arguments)
        self.assertIs(caught.exception.__class__, kind, f"{function.__name__}{arguments}")
        self.assertIsInstance(caught.exception, ValueError)
        self.assertEqual(repr(arguments), before)

    def test_right_values_raise_nothing_and_stay(self):
        for function, arguments, _ in CALLS:
            with self.subTest(function=function.__name__):
                before = copy.deepcopy(arguments)
                function(*arguments)
                self.assertEqual(arguments, before)

    def test_each_parameter_alone(self):
        for function, arguments, wrongs in CALLS:
            for place, (kind, values) in enumerate(wrongs):
                for value in values:
                    self.check(function, (*arguments[:place], value, *arguments[place + 1:]), kind)

    def test_several_at_once(self):
        for function, arguments, wrongs in CALLS:
            for place, (kind, values) in enumerate(wrongs):
                for behind, (_, others) in list(enumerate(wrongs))[place + 1:]:
                    for value in values:
                        for other in (None, True, "", [], others[-1]):
                            given = list(arguments)
                            given[place], given[behind] = value, other
                            self.check(function, tuple(given), kind)

    def test_all_at_once(self):
        for function, arguments, wrongs in CALLS:
            for value in (None, True, False, "7", [7], (), {}, b"7"):
                self.check(function, (value,) * len(arguments), wrongs[0][0])

    def test_a_wrong_size_of_is_node_goes_first(self):
        for value in no_nodes(7):
            self.check(shapes.is_node, (0, value), InvalidSize)

    def test_nodes_of_other_trees(self):
        for size in range(1, 20):
            tree = plain_tree(size)
            for other in range(1, 20):
                for node in plain_tree(other):
                    if node not in tree:
                        for function in (shapes.halves, shapes.parent, shapes.sibling):
                            self.check(function, (size, node), InvalidNode)

    def test_ranges_at_their_ends(self):
        for size in [*range(1, 20), *GREAT]:
            depths.depth(size, 0), depths.depth(size, size - 1), depths.depth_sum(size, 0, size)
            for entry in (-1, size, size + 1):
                self.check(depths.depth, (size, entry), InvalidEntry)
                self.check(depths.path, (size, entry), InvalidEntry)
            wrong = [(-1, 1), (size, size), (size, size + 1), (0, 0), (0, size + 1), (size - 1, size - 1)]
            for function in (depths.depth_sum, depths.depth_range):
                for begin, end in wrong:
                    self.check(function, (size, begin, end), InvalidSpan)
        for function in (shapes.peaks, shapes.edges, shapes.node_count):
            function(1), function(MOST)
            self.check(function, (0,), InvalidSize)
            self.check(function, (MOST + 1,), InvalidSize)

    def test_the_bounds_of_sizes_with(self):
        depths.sizes_with(0, 0, 1), depths.sizes_with(MOST - 1, 0, MOST)
        self.check(depths.sizes_with, (MOST, 0, MOST), InvalidEntry)
        self.check(depths.sizes_with, (-1, 0, MOST), InvalidEntry)
        self.check(depths.sizes_with, (0, 0, 0), InvalidSize)
        self.check(depths.sizes_with, (0, 0, MOST + 1), InvalidSize)

    def test_older_sizes_at_their_ends(self):
        for size in [*range(1, 20), *GREAT]:
            for function in (older.older_list, older.older_count):
                function(size, 1), function(size, size)
                for other in (0, -1, size + 1, 2 * size):
                    self.check(function, (size, other), InvalidSize)

    def test_stretches_at_their_ends(self):
        for function in (compact.compact, compact.compact_count, compact.greatest):
            function(0, 1), function(0, MOST), function(MOST - 1, MOST)
            wrong = [(-1, 1), (0, 0), (5, 5), (5, 4), (MOST, MOST), (MOST, MOST + 1), (0, MOST + 1), (1, 0)]
            for begin, end in wrong + [(MOST - 1, MOST + 1), (2 ** 100, 2 ** 100 + 1), (-2, -1), (-1, MOST)]:
                self.check(function, (begin, end), InvalidSpan)


    def test_heights_at_their_ends(self):
        for size in (1, 7, MOST):
            for function, more in ((tiles.tile_count, ()), (tiles.tile_width, (0, 0)), (tiles.changed_tiles, (1,)),
                                   (tiles.tiles_of, ([(0, 1)],))):
                function(size, 1, *more), function(size, 30, *more)
                for height in (0, -1, 31, 100):
                    self.check(function, (size, height, *more), InvalidHeight)

    def test_numbers_at_their_ends(self):
        for size in [*range(1, 20), *GREAT]:
            work.append_sums(size, 0), work.append_sums(size, MOST - size)
            tiles.tile_width(size, 1, 0, 0), tiles.tile_width(size, 30, 10 ** 99, 10 ** 99)
            for number in (-1, MOST - size + 1, MOST + 1):
                self.check(work.append_sums, (size, number), InvalidNumber)
            for step in (1, 2, 3, 10 ** 15, MOST - size + 1, 10 ** 99, 10 ** 999):
                most = (MOST - size) // step
                work.roots_by_steps(size, step, 0), work.roots_by_steps(size, step, most)
                for number in (-1, most + 1, MOST + 1):
                    self.check(work.roots_by_steps, (size, step, number), InvalidNumber)
            for step in (0, -1, -size):
                self.check(work.roots_by_steps, (size, step, 0), InvalidNumber)
            for level, number in ((-1, 0), (0, -1), (-1, -1), (-(10 ** 99), 0), (0, -(10 ** 99))):
                self.check(tiles.tile_width, (size, 8, level, number), InvalidNumber)

    def test_stretches_of_sizes_at_their_ends(self):
        for function in (work.roots_total, work.cheapest, work.costliest):
            for size in [*range(1, 20), *GREAT]:
                function(size, size), function(1, size), function(size, MOST)
                wrong = [(0, size), (-1, size), (size, MOST + 1), (size, 0), (size, -size), (size + 1, size), (0, 0)]
                for low, high in wrong + [(MOST + 1, MOST + 1), (MOST + 1, size), (2 * size, size)]:
                    self.check(function, (low, high), InvalidSize)


class WrongListsTest(unittest.TestCase):
    def check(self, function, arguments, kind, item):
        """Expect an error of exactly one class with a field, and that the arguments stay as they were."""
        before = repr(arguments)
        with self.assertRaises(LogError, msg=f"{function.__name__}{arguments}") as caught:
            function(*arguments)
        self.assertIs(caught.exception.__class__, kind, f"{function.__name__}{arguments}")
        self.assertEqual(vars(caught.exception), {"item": item}, f"{function.__name__}{arguments}")
        self.assertEqual(repr(arguments), before)

    def test_the_first_wrong_item(self):
        for function, arguments, place, values in LISTS:
            kind = InvalidBounds if values is WRONG_BOUNDS else InvalidSpans if values is WRONG_SPANS else InvalidNodes
            for value, item in values:
                self.check(function, (*arguments[:place], value, *arguments[place + 1:]), kind, item)

    def test_spans_go_ahead_of_others(self):
        for value, item in WRONG_SPANS:
            for other, _ in WRONG_SPANS[::40]:
                self.check(needs.needed_both, (7, value, other), InvalidSpans, item)

    def test_how_many_spans(self):
        spans = [(2 * place, 2 * place + 1) for place in range(60)]
        for function in (needs.needed, needs.needed_count, needs.spared):
            function(120, spans[:1]), function(120, spans[:12])
            for many in (0, 13, 14, 60):
                self.check(function, (120, spans[:many]), InvalidSpans, None)
        for many in (0, 13, 60):
            self.check(needs.needed_both, (120, spans[:12], spans[:many]), InvalidSpans, None)
            self.check(needs.needed_both, (120, spans[:many], spans[:12]), InvalidSpans, None)

    def test_spans_of_other_logs(self):
        for size in [*range(1, 12), *GREAT]:
            needs.needed(size, [(0, size)]), needs.needed(size, [(size - 1, size)])
            for wrong in ((0, size + 1), (size, size + 1), (size, size), (-1, size), (size - 1, size + 1)):
                self.check(needs.needed, (size, [wrong]), InvalidSpans, 0)
                self.check(needs.spared, (size, [wrong]), InvalidSpans, 0)
                self.check(needs.needed_both, (size, [(0, size)], [wrong]), InvalidSpans, 0)
            self.check(needs.needed, (size, [(0, size), (size, size + 1)]), InvalidSpans, 1)

    def test_the_wrong_item_at_each_place(self):
        spans = [(3 * place, 3 * place + 2) for place in range(12)]
        for place in range(12):
            first, end = spans[place]
            for wrong in (None, [first, end], (first, first), (first, end, end), (first - 2, end), (first, MOST + 1)):
                given = [*spans[:place], wrong, *spans[place + 1:]]
                self.check(needs.needed, (MOST, given), InvalidSpans, place)
                self.check(needs.needed, (MOST, [*given[:place + 1], *[None] * (11 - place)]), InvalidSpans, place)

    def test_how_many_bounds(self):
        bounds = list(range(5, 65))
        compact.join_sums(bounds[:2]), compact.join_sums(bounds[:12]), compact.join_sums([0, MOST])
        for many in (0, 1, 13, 14, 60):
            self.check(compact.join_sums, (bounds[:many],), InvalidBounds, None)

    def test_the_wrong_bound_at_each_place(self):
        bounds = list(range(5, 65, 5))
        for place in range(12):
            bound = bounds[place]
            for wrong in (None, True, -1, MOST + 1, [bound], str(bound), bounds[place - 1] if place else -5):
                given = [*bounds[:place], wrong, *bounds[place + 1:]]
                self.check(compact.join_sums, (given,), InvalidBounds, place)
                self.check(compact.join_sums, ([*given[:place + 1], *[0] * (11 - place)],), InvalidBounds, place)
        self.check(compact.join_sums, ([*bounds[:6], bounds[7], bounds[6], *bounds[8:]],), InvalidBounds, 7)


    def test_how_many_nodes(self):
        nodes = shapes.peaks(2 ** 80 - 1)[:61]
        size = 2 ** 80 - 1
        for function, ahead in ((tiles.tiles_of, (size, 4)), (known.gives_root, (size,)), (known.known_tops, (size,)),
                                (known.missing, (size,)), (known.needless, (size,)),
                                (papers.serves, (size, [(0, 1)])), (papers.first_wrong, (size, [(0, 1)])),
                                (papers.lacking, (size, [(0, 1)]))):
            function(*ahead, nodes[:1]), function(*ahead, nodes[:60])
            for given in ([], nodes, nodes * 3, [None] * 61):
                self.check(function, (*ahead, given), InvalidNodes, None)

    def test_nodes_of_other_trees(self):
        for size in range(1, 14):
            tree = plain_tree(size)
            for other in range(1, 17):
                for node in plain_tree(other):
                    given = [(0, size), (0, 1), node, (0, other)]
                    if node in tree:
                        known.missing(size, given[:3])
                    else:
                        self.check(known.missing, (size, given), InvalidNodes, 2)
                        self.check(papers.lacking, (size, [(0, 1)], given), InvalidNodes, 2)
                        self.check(tiles.tiles_of, (size, 3, given), InvalidNodes, 2)

    def test_the_wrong_node_at_each_place(self):
        nodes = [(3 * place, 3 * place + 1) for place in range(60)]
        for place in range(60):
            for wrong in (None, [3, 4], (1, 3), (True, 2), (0, MOST + 1), (2 ** 99 + 1, MOST)):
                given = [*nodes[:place], wrong, *nodes[place + 1:]]
                for function in (known.gives_root, known.known_tops, known.missing, known.needless):
                    self.check(function, (MOST, given), InvalidNodes, place)
                    self.check(function, (MOST, [*given[:place + 1], *[0] * (59 - place)]), InvalidNodes, place)

    def test_spans_go_ahead_of_nodes(self):
        for function in (papers.serves, papers.first_wrong, papers.lacking):
            for value, item in WRONG_SPANS[::7]:
                for nodes in (None, [], [None], [(0, 8)], NODES):
                    self.check(function, (7, value, nodes), InvalidSpans, item)

    def test_any_value_is_shown(self):
        for value in (None, [], (), [None], 7, True, "0-4", NODES, [(0, 8)] * 4000):
            for size in (0, None, MOST + 1):
                with self.assertRaises(InvalidSize):
                    papers.shows_needed(size, [(0, 1)], value)
            self.check(papers.shows_needed, (7, [(0, 1), (0, 1)], value), InvalidSpans, 1)


class ListsTest(unittest.TestCase):
    def test_each_returned_list_is_a_new_one(self):
        calls = [(shapes.peaks, (7,)), (shapes.edges, (7,)), (shapes.edges, (8,)), (depths.path, (7, 5)),
                 (depths.path, (1, 0)), (depths.sizes_with, (5, 3, 20)), (depths.sizes_with, (5, 3, 5)),
                 (needs.needed, (7, [(2, 3)])), (needs.needed, (7, [(0, 7)])), (older.older_list, (7, 3)),
                 (older.older_list, (7, 7)), (older.older_list, (7, 4)), (compact.compact, (3, 11)),
                 (compact.compact, (0, 8)), (tiles.tiles_of, (7, 2, [(0, 7)])), (known.known_tops, (7, NODES)),
                 (known.missing, (7, [(2, 3)])), (known.missing, (7, NODES)), (known.needless, (7, NODES)),
                 (known.needless, (7, [(0, 4)])), (papers.lacking, (7, [(5, 6)], [(0, 2)])),
                 (papers.lacking, (7, [(0, 7)], NODES)), (texts.read_nodes, (7, "0-4, 4-7")),
                 (texts.read_nodes, (7, ""))]
        for function, arguments in calls:
            first = function(*arguments)
            kept = copy.deepcopy(first)
            self.assertIsInstance(first, list)
            first.append("more")
            first.reverse()
            self.assertEqual(function(*arguments), kept, function.__name__)

    def test_kinds_of_values(self):
        for size in (1, 7, 8, MOST):
            for entry in marked_entries(size)[:3]:
                nodes = shapes.peaks(size) + shapes.edges(size) + depths.path(size, entry)
                nodes += needs.needed(size, [(entry, entry + 1)]) + older.older_list(size, entry + 1)
                nodes += compact.compact(entry, size) + [compact.greatest(entry, size)]
                self.assertTrue(all(node.__class__ is tuple and len(node) == 2 for node in nodes))
                nodes += known.known_tops(size, nodes[:60]) + known.missing(size, [(entry, entry + 1)])
                nodes += papers.lacking(size, [(entry, entry + 1)], [(0, 1)]) + tiles.tiles_of(size, 2, [(0, size)])
                nodes += texts.read_nodes(size, f"{entry}-{entry + 1}, 0-{size}")
                self.assertTrue(all(node.__class__ is tuple and len(node) == 2 for node in nodes))
            for pair in (work.cheapest(1, size), work.costliest(1, size), tiles.tile_count(size, 3)):
                self.assertEqual((pair.__class__, len(pair)), (tuple, 2))
            for told in (known.gives_root(size, [(0, 1)]), papers.serves(size, [(0, 1)], [(0, 1)]),
                         papers.shows_needed(size, [(0, 1)], [])):
                self.assertIs(told.__class__, bool)
            self.assertIs(texts.show_nodes(size, []).__class__, str)
            self.assertIs(shapes.node_count(size).__class__, tuple)
            self.assertIs(older.longest_older(size).__class__, tuple)
            self.assertIs(depths.depth_range(size, 0, size).__class__, tuple)
            self.assertIs(shapes.halves(size, (0, size)).__class__, tuple if size > 1 else None.__class__)

    def test_no_answer_depends_on_calls_before(self):
        before = [repr(function(*arguments)) for function, arguments, _ in CALLS]
        after = [repr(function(*arguments)) for function, arguments, _ in reversed(CALLS)]
        self.assertEqual(before, after[::-1])


class InterfaceTest(unittest.TestCase):
    def test_names_and_parameters(self):
        for module, functions in PARAMETERS.items():
            for name, parameters in functions.items():
                with self.subTest(module=module.__name__, name=name):
                    function = getattr(module, name)
                    self.assertEqual(function.__module__, module.__name__)
                    self.assertEqual(list(inspect.signature(function).parameters), parameters)

    def test_classes(self):
        for kind, methods in CLASSES.items():
            for name, parameters in methods.items():
                with self.subTest(kind=kind.__name__, name=name):
                    told = vars(kind)[name]
                    if parameters is None:
                        self.assertIsInstance(told, property)
                    else:
                        self.assertEqual(list(inspect.signature(told).parameters), ["self", *parameters])
        self.assertTrue(issubclass(live.BudgetLog, live.LiveLog))


if __name__ == "__main__":
    unittest.main()
