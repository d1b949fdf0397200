"""What the document promises over the whole program: its modules tell the same shape."""

import random
import unittest

from logtrees.compact import compact, compact_count, join_sums
from logtrees.console import Console
from logtrees.depths import depth, depth_sum, path
from logtrees.known import gives_root, known_tops, missing, needless
from logtrees.live import BudgetLog, LiveLog
from logtrees.needs import needed, needed_both, needed_count, spared
from logtrees.older import older_count, older_list
from logtrees.papers import first_wrong, lacking, serves, shows_needed
from logtrees.shapes import edges, node_count, peaks
from logtrees.texts import read_nodes, show_nodes
from logtrees.tiles import changed_tiles, tile_count, tile_width, tiles_of
from logtrees.work import append_sums, root_sums, roots_by_steps, roots_total
from tests.plain import GREAT, MOST, marked_entries

SIZES = [*range(1, 34), *GREAT[::3], MOST]


def span_lists(size):
    """List some lists of spans of a log: single entries, several ones, longer ones, all entries."""
    marks = marked_entries(size)
    found = [[(0, size)], [(0, 1)], [(size - 1, size)]] + [[(mark, mark + 1)] for mark in marks[::8]]
    for count in (2, 5, 12):
        picked = marks[::max(1, len(marks) // count)][:count]
        found.append([(mark, mark + 1) for mark in picked])
        found.append([*zip(picked, picked[1:])][::2])
    return [spans for spans in found if spans]


class OlderAndNeededTest(unittest.TestCase):
    def test_an_older_list_is_peaks_and_what_its_entries_need(self):
        for size in SIZES:
            for older in {*[mark for mark in marked_entries(size)[::3] if mark], size}:
                tops = peaks(older) if len(peaks(older)) > 1 else []
                told = older_list(size, older)
                if older == size:
                    self.assertEqual(told, [])
                else:
                    self.assertEqual(told, tops + needed(size, [(0, older)]), (size, older))
                self.assertEqual(older_count(size, older), len(told))

    def test_what_one_entry_needs_is_its_path(self):
        for size in SIZES:
            for entry in marked_entries(size)[::5]:
                spans = [(entry, entry + 1)]
                nodes = path(size, entry)
                self.assertEqual(needed(size, spans), sorted(nodes))
                self.assertEqual(needed_count(size, spans), depth(size, entry))
                self.assertEqual(missing(size, spans), sorted(nodes))
                self.assertEqual([spared(size, spans), depth_sum(size, entry, entry + 1)], [0, len(nodes)])
                self.assertIs(shows_needed(size, spans, nodes), True)
                self.assertEqual(needed_both(size, spans, spans), len(nodes))


class PapersTest(unittest.TestCase):
    def test_needed_nodes_serve_and_lack_nothing(self):
        for size in SIZES:
            for spans in span_lists(size):
                nodes = needed(size, spans)
                self.assertIs(shows_needed(size, spans, nodes[::-1]), True)
                if 1 <= len(nodes) <= 60:
                    self.assertIs(serves(size, spans, nodes[::-1]), True)
                    self.assertIsNone(first_wrong(size, spans, nodes))
                    self.assertEqual(lacking(size, spans, nodes), [])
                    self.assertEqual(needless(size, nodes), [])
                    self.assertEqual(lacking(size, spans, nodes[:1]), nodes[1:])

    def test_needed_nodes_are_missing_beside_the_leaves(self):
        for size in SIZES:
            marks = marked_entries(size)
            for many in (1, 2, 7, 12):
                leaves = [(mark, mark + 1) for mark in marks[1::max(1, len(marks) // many)][:many]]
                if leaves:
                    nodes = needed(size, leaves)
                    self.assertEqual(missing(size, leaves[::-1]), nodes)
                    if nodes and len(nodes) + len(leaves) <= 60:
                        self.assertIs(gives_root(size, nodes + leaves), True)
                        self.assertEqual(known_tops(size, leaves + nodes), [(0, size)])
                        self.assertIs(gives_root(size, nodes[1:] + leaves), False)

    def test_texts_of_needed_nodes_are_read_as_papers(self):
        for size in SIZES:
            for spans in span_lists(size):
                nodes = needed(size, spans)
                text = show_nodes(size, nodes[::-1])
                self.assertIs(shows_needed(size, spans, read_nodes(size, text)), True)
                if nodes:
                    self.assertIs(shows_needed(size, spans, read_nodes(size, show_nodes(size, nodes[1:]))), False)

    def test_the_stretch_of_a_full_node(self):
        for size in SIZES:
            self.assertEqual(compact(0, size), peaks(size))
            self.assertEqual(compact_count(0, size), root_sums(size) + 1)
            for entry in marked_entries(size)[1::7]:
                # What is needed for the entries behind a stretch from 0 on are its fewest full nodes.
                self.assertEqual(needed(size, [(entry, size)]), compact(0, entry) if entry else [])


class GrowingTest(unittest.TestCase):
    def test_what_a_growing_log_spends(self):
        for seed in range(40):
            chance = random.Random(seed)
            size = chance.choice([1, 2, 6, 31, 2 ** 60 - 1, 10 ** 25])
            live, spent, budget = LiveLog(size), 0, BudgetLog(size, MOST * 10)
            for _ in range(20):
                number = chance.choice([1, 2, 3, 8, 10 ** 6, 3 ** 30])
                spent += append_sums(live.present, number) + root_sums(live.present + number)
                self.assertEqual(live.preview(("append", number), ("mark",)), spent)
                for log in (live, budget):
                    log.append(number)
                    log.mark()
                    self.assertEqual(log.spent, spent)
            for older in live.marks:
                self.assertEqual(live.shown(older), older_list(live.present, older))

    def test_publishing_each_root(self):
        for size, step, number in ((1, 1, 60), (5, 3, 40), (2 ** 70 - 5, 1, 50), (10 ** 20, 10 ** 19 + 1, 90)):
            live = LiveLog(size)
            for _ in range(number):
                live.append(step)
                live.mark()
            roots = roots_by_steps(size, step, number)
            self.assertEqual(live.spent, append_sums(size, step * number) + roots)
            if step == 1:
                self.assertEqual(roots, roots_total(size + 1, size + number))

    def test_appended_nodes_and_joined_stretches(self):
        for size in SIZES:
            full, cut = node_count(size)
            self.assertEqual(append_sums(1, size - 1), full - size)
            self.assertEqual([root_sums(size), len(edges(size))], [cut, cut])
            if size > 12:
                # Each joining makes a full node.
                bounds = sorted({0, *[size * part // 11 for part in range(11)], size})
                parts = sum(compact_count(begin, end) for begin, end in zip(bounds, bounds[1:]))
                self.assertEqual(join_sums(bounds), parts - len(peaks(size)))

    def test_tiles_of_height_one_have_two_halves(self):
        for size in SIZES:
            there, full = tile_count(size, 1)
            counts = [size >> level for level in range(size.bit_length())]
            # Two nodes of a height are the halves of one more, or the one beside them is alone.
            self.assertEqual(full, sum(count // 2 for count in counts))
            self.assertEqual(full, append_sums(1, size - 1))
            self.assertEqual(there - full, root_sums(size) + 1)

    def test_tiles_of_needed_nodes(self):
        for size in SIZES:
            for entry in marked_entries(size)[::9]:
                nodes = path(size, entry)[:60]
                for height in (1, 8) if nodes else ():
                    tiles = tiles_of(size, height, nodes)
                    self.assertTrue(all(tile_width(size, height, *tile) > 0 for tile in tiles))
            for height in (1, 2, 8, 30):
                self.assertEqual(changed_tiles(size, height, size), 0)
                self.assertLessEqual(changed_tiles(size, height, 1), tile_count(size, height)[0])


class ConsoleTest(unittest.TestCase):
    def test_the_console_answers_as_the_functions_do(self):
        for size in SIZES:
            console = Console()
            console.execute(f"log {size}")
            for entry in marked_entries(size)[::6]:
                spans = [(entry, entry + 1)]
                nodes = needed(size, spans)
                text = show_nodes(size, nodes)
                self.assertEqual(console.execute(f"needed {entry}"), text or "none")
                self.assertEqual(console.execute(f"path {entry}"), show_nodes(size, path(size, entry)) or "none")
                self.assertEqual(console.execute(f"judge {entry} {text}"), "right")
                self.assertEqual(console.execute(f"missing {entry}-{entry + 1}"), text or "none")
                if nodes:
                    self.assertEqual(console.execute(f"missing {show_nodes(size, nodes[:60])}"),
                                     show_nodes(size, missing(size, nodes[:60])) or "none")
                if 0 < len(nodes) < 60:
                    more = nodes + nodes[:1]
                    self.assertIs(serves(size, spans, more), True)
                    self.assertEqual(console.execute(f"judge {entry} {show_nodes(size, more)}"), "serves")
                    less = [*nodes[1:], (entry, entry + 1)]
                    self.assertIs(serves(size, spans, less), False)
                    self.assertEqual(console.execute(f"judge {entry} {show_nodes(size, less)}"), "wrong")

    def test_a_growing_console(self):
        for seed in range(20):
            chance = random.Random(seed)
            console, live = Console(), LiveLog(1)
            for _ in range(25):
                number = chance.choice([1, 2, 5, 10 ** 7, 3 ** 40])
                for command, call in ((f"append {number}", lambda: live.append(number)), ("mark", live.mark),
                                      ("undo", live.undo), ("mark", live.mark)):
                    self.assertEqual(console.execute(command), "ok")
                    call()
                told = [console.execute(command) for command in ("size", "spent", "marks")]
                self.assertEqual(told, [str(live.present), str(live.spent), " ".join(map(str, live.marks))])
                older = chance.choice(live.marks)
                text = show_nodes(live.present, older_list(live.present, older)) or "none"
                self.assertEqual([console.execute(f"{word} {older}") for word in ("shown", "older")], [text, text])


if __name__ == "__main__":
    unittest.main()
