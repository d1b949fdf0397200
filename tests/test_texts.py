"""Section 11 of the interface: texts of nodes."""

import unittest

from logtrees.depths import path
from logtrees.errors import InvalidNodes, InvalidSize, InvalidText, LogError
from logtrees.needs import needed
from logtrees.shapes import peaks
from logtrees.texts import read_nodes, show_nodes
from tests.plain import GREAT, MOST, NO_SIZES, marked_entries, plain_line, plain_tree
from tests.wrong_lists import NO_LISTS, NO_NODES, NO_NODE_TEXTS, WRONG_NODES, WRONG_PARTS

NODES = [(0, 4), (4, 7), (6, 7), (2, 3), (0, 4), (0, 7)]


def plain_text(nodes):
    text = ""
    for place, (a, b) in enumerate(nodes):
        text += (", " if place else "") + str(a) + "-" + str(b)
    return text


class ExampleTest(unittest.TestCase):
    def test_first(self):
        self.assertEqual(
            [show_nodes(7, [(0, 4), (4, 7)]), read_nodes(7, "4-7, 0-4"), read_nodes(7, "")],
            ["0-4, 4-7", [(4, 7), (0, 4)], []])

    def test_second(self):
        with self.assertRaises(InvalidText) as caught:
            read_nodes(7, "0-4, 4-8")
        self.assertEqual(vars(caught.exception), {"part": 1})


class ThereAndBackTest(unittest.TestCase):
    def check(self, size, nodes):
        text = show_nodes(size, nodes)
        self.assertEqual(text, plain_text(nodes))
        self.assertEqual(read_nodes(size, text), nodes)
        self.assertTrue(all(node.__class__ is tuple for node in read_nodes(size, text)))

    def test_small_trees(self):
        for size in range(1, 20):
            tree = sorted(plain_tree(size))
            self.check(size, [])
            for place in range(len(tree)):
                self.check(size, [tree[place]])
                self.check(size, tree[place:] + tree[:place])
                self.check(size, tree[::-1] + tree[place:])
                self.check(size, [tree[place]] * 3)

    def test_great_trees(self):
        for size in GREAT:
            self.check(size, peaks(size))
            for entry in marked_entries(size)[::9]:
                self.check(size, path(size, entry))
                self.check(size, plain_line(size, entry))

    def test_4000_nodes(self):
        for size, node in ((7, (4, 7)), (MOST, (MOST - 1, MOST)), (MOST, (0, MOST))):
            self.check(size, [node] * 4000)
            for many in (4001, 4002, 10000):
                with self.assertRaises(InvalidNodes) as caught:
                    show_nodes(size, [node] * many)
                self.assertEqual(vars(caught.exception), {"item": None})
        self.check(MOST, [(place, place + 1) for place in range(4000)])
        with self.assertRaises(InvalidNodes) as caught:
            show_nodes(MOST, [None] * 4001)
        self.assertIsNone(caught.exception.item)

    def test_more_than_60_nodes(self):
        spans = [(place * (2 ** 99 // 16) + 54321, place * (2 ** 99 // 16) + 54322) for place in range(12)]
        self.check(2 ** 99, needed(2 ** 99, spans))

    def test_every_text_that_is_read_is_the_text_of_its_nodes(self):
        for size in (1, 2, 3, 7, 8):
            words = [f"{a}-{b}" for a in range(size + 2) for b in range(size + 2)] + ["", "-", "0", "00-1", "0-01"]
            for first in words:
                for second in ["", *words]:
                    text = f"{first}, {second}" if second else first
                    try:
                        nodes = read_nodes(size, text)
                    except InvalidText:
                        continue
                    self.assertEqual(show_nodes(size, nodes), text)


class WrongTextsTest(unittest.TestCase):
    def check(self, size, text, part):
        with self.assertRaises(LogError, msg=repr(text)[:200]) as caught:
            read_nodes(size, text)
        self.assertIs(caught.exception.__class__, InvalidText, repr(text)[:200])
        self.assertEqual(vars(caught.exception), {"part": part}, repr(text)[:200])

    def test_parts(self):
        for wrong in WRONG_PARTS:
            self.check(7, wrong, 0)
            self.check(7, f"{wrong}, 0-4", 0)
            self.check(7, f"0-4, {wrong}", 1)
            self.check(7, f"0-4, 4-7, {wrong}, 0-7, 0-1", 2)
            self.check(7, f"0-4, {wrong}, {wrong}, 0-8", 1)
            self.check(7, ", ".join(["0-1"] * 70 + [wrong]), 70)

    def test_parts_of_other_trees(self):
        for size in range(1, 12):
            tree = plain_tree(size)
            for a in range(size + 3):
                for b in range(size + 3):
                    if (a, b) in tree:
                        self.assertEqual(read_nodes(size, f"0-{size}, {a}-{b}"), [(0, size), (a, b)])
                    else:
                        self.check(size, f"{a}-{b}", 0)
                        self.check(size, f"0-{size}, {a}-{b}", 1)

    def test_empty_parts(self):
        self.assertEqual(read_nodes(7, ""), [])
        for text, part in ((", ", 0), (", 0-4", 0), ("0-4, ", 1), ("0-4, , 4-7", 1), (", , ", 0), ("0-4, 4-7, ", 2)):
            self.check(7, text, part)

    def test_separators(self):
        for text, part in ((",", 0), ("0-4,4-7", 0), ("0-4 4-7", 0), ("0-4 , 4-7", 0), ("0-4,  4-7", 1), ("0-4;4-7", 0),
                           ("0-4,\n4-7", 0), ("0-4, \n4-7", 1), ("0-4,\t4-7", 0), ("0-4\n", 0), ("0-4, 4-7\n", 1),
                           ("0-4, 4-7 ", 1), (" 0-4, 4-7", 0), ("0-4, 4-7,", 1), ("0-4, 4 - 7", 1), ("[0-4, 4-7]", 0),
                           ("0-4, 4-7]", 1), ("\n", 0), ("\n0-4", 0), ("0-4\n, 4-7", 0)):
            self.check(7, text, part)

    def test_changed_signs(self):
        text = "0-4, 4-6, 6-7"
        for place in range(len(text) + 1):
            for sign in "0 -,x\n+\u0661":
                for other in (text[:place] + sign + text[place:], text[:place] + sign + text[place + 1:],
                              text[:place] + text[place + 1:]):
                    try:
                        nodes = read_nodes(7, other)
                    except InvalidText as error:
                        parts = other.split(", ")
                        self.assertRaises(InvalidText, read_nodes, 7, parts[error.part] or "-")
                        for part in parts[:error.part]:
                            self.assertEqual(len(read_nodes(7, part)), 1)
                    else:
                        self.assertEqual(plain_text(nodes), other)

    def test_numbers_of_many_digits(self):
        for size in (7, MOST):
            for digits in (100, 101, 102, 500, 1000):
                self.check(size, "0-" + "1" * digits, 0)
                self.check(size, "0-" + "0" * (digits - 1) + "4", 0)
                self.check(size, "0" * digits + "-4", 0)
        self.assertEqual(read_nodes(MOST, f"0-{MOST}, {MOST - 1}-{MOST}"), [(0, MOST), (MOST - 1, MOST)])
        self.check(MOST, f"0-{MOST}, 0-{MOST + 1}", 1)

    def test_signs_beyond_ascii(self):
        for digit in ("\u0664", "\uff14", "\u0be4", "\u2074", "\u00b2", "\u2463", "\U0001d7d2"):
            self.check(7, f"0-{digit}", 0)
            self.check(7, f"0-4, 0-{digit}", 1)
            self.check(7, f"{digit}-7", 0)

    def test_no_strings(self):
        for value in NO_LISTS + [[], ["0-4"], [(0, 4)], b"0-4", b"", ("0-4",), {"0-4": 0}, (0, 4)]:
            if not isinstance(value, str):
                self.check(7, value, None)

    def test_sizes_go_ahead(self):
        for size in NO_SIZES:
            for text in (None, "", "0-4", "x", 7):
                self.assertRaises(InvalidSize, read_nodes, size, text)
            for nodes in (None, [], [None], NODES, [(0, 4)] * 4001):
                self.assertRaises(InvalidSize, show_nodes, size, nodes)


class WrongNodesTest(unittest.TestCase):
    def check(self, size, nodes, item):
        with self.assertRaises(LogError) as caught:
            show_nodes(size, nodes)
        self.assertIs(caught.exception.__class__, InvalidNodes)
        self.assertEqual(vars(caught.exception), {"item": item})

    def test_no_lists(self):
        for value, item in WRONG_NODES:
            self.check(7, value, item)
        for value in ((), ((0, 4),), {}, {(0, 4): 1}, "", "0-4", None, True, 0, b""):
            self.check(7, value, None)

    def test_wrong_items_far_behind(self):
        for wrong in NO_NODES:
            self.check(7, [(0, 4)] * 3999 + [wrong], 3999)
            self.check(7, [(0, 4)] * 70 + [wrong] * 30, 70)

    def test_stretches_that_are_no_nodes(self):
        for word in NO_NODE_TEXTS:
            node = tuple(int(number) for number in word.split("-"))
            self.check(7, [(0, 7), node], 1)


if __name__ == "__main__":
    unittest.main()
