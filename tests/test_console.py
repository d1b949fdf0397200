"""Points 2, 4, 5, 7, 10, 11 and 13 and section 13 of the interface: the console."""

import random
import unittest

from logtrees.console import Console
from logtrees.depths import path
from logtrees.errors import (
    InvalidCommand, InvalidEntry, InvalidNodes, InvalidNumber, InvalidSize, InvalidSpans, InvalidText, LogError,
    Nothing,
)
from logtrees.known import missing
from logtrees.live import LiveLog
from logtrees.needs import needed
from logtrees.older import older_list
from logtrees.shapes import halves, peaks
from tests.plain import FAR_INTEGERS, GREAT, MOST, NO_INTEGERS, marked_entries, plain_tree
from tests.wrong_lists import NO_NODE_TEXTS, WRONG_PARTS

WITH_A_NUMBER = ("log", "append", "cut", "path", "older", "shown", "needed")
WITHOUT_NUMBERS = ("mark", "undo", "size", "spent", "marks")

# Words that are no integers as texts write them; a space would part them into two words.
NO_NUMBERS = [
    "", "-", "--1", "+1", "01", "00", "-0", "-00", "-01", "- 1", "1-", "1.0", "1e3", "1_0", "0x1", "a", "one", "None",
    "1\n", "\n1", "\n", "1\t", "\t1", "1,", "1;", "(1)", "'1'", "\u0661", "\uff11", "\u00b9", "\u2460", "\u22121",
    "\u20131", "1" * 101, "-" + "1" * 101, "0" * 100 + "1", "1-2", "0-4", "true", "True", "1\u00a0", "1" * 1000,
]


def text_of(nodes):
    return ", ".join(f"{a}-{b}" for a, b in nodes)


def told(nodes):
    return text_of(nodes) or "none"


def state_of(console):
    """Return all that a console tells of its log without a number."""
    return [console.execute(command) for command in ("size", "spent", "marks")]


def console_with(*commands):
    console = Console()
    for command in commands:
        assert console.execute(command) == "ok"
    return console


class ConsoleTest(unittest.TestCase):
    def check(self, console, command, kind, field=None):
        """Expect an error of exactly one class, with its field, and a log that stays as it was."""
        before = state_of(console)
        with self.assertRaises(LogError, msg=repr(command)[:200]) as caught:
            console.execute(command)
        self.assertIs(caught.exception.__class__, kind, repr(command)[:200])
        self.assertEqual(vars(caught.exception), field or {}, repr(command)[:200])
        self.assertEqual(state_of(console), before)

    def answers(self, console, *pairs):
        for command, answer in pairs:
            self.assertEqual(console.execute(command), answer, command[:200])


class ExampleTest(unittest.TestCase):
    def test_all(self):
        console = Console()
        self.assertEqual(
            [console.execute(command) for command in [
                "append 6", "mark", "spent", "path 5", "older 3", "needed 2 5", "marks", "missing 4-7",
                "judge 5 0-2, 2-4, 4-5, 6-7"]],
            ["ok", "ok", "6", "4-5, 6-7, 0-4", "0-2, 2-3, 3-4, 4-7", "0-2, 3-4, 4-5, 6-7", "7", "0-4", "serves"])


class CommandsTest(ConsoleTest):
    def test_a_new_console(self):
        self.answers(Console(), ("size", "1"), ("spent", "0"), ("marks", "none"), ("path 0", "none"),
                     ("older 1", "none"), ("needed 0", "none"), ("missing 0-1", "none"), ("judge 0 ", "right"),
                     ("judge 0 0-1", "wrong"), ("mark", "ok"), ("marks", "1"), ("shown 1", "none"), ("spent", "0"))

    def test_log(self):
        console = console_with("append 6", "mark")
        self.answers(console, ("log 12", "ok"), ("size", "12"), ("spent", "0"), ("marks", "none"))
        self.check(console, "undo", Nothing)
        for size in GREAT[::7] + [1, MOST]:
            self.answers(console, (f"log {size}", "ok"), ("size", str(size)))

    def test_calls(self):
        console = Console()
        self.answers(console, ("append 6", "ok"), ("size", "7"), ("spent", "4"), ("mark", "ok"), ("spent", "6"),
                     ("mark", "ok"), ("spent", "6"), ("append 1", "ok"), ("spent", "9"), ("mark", "ok"),
                     ("marks", "7 8"), ("shown 7", "0-4, 4-6, 6-7, 7-8"), ("cut 7", "ok"), ("marks", "7"),
                     ("cut 2", "ok"), ("marks", "none"), ("size", "2"), ("undo", "ok"), ("undo", "ok"),
                     ("marks", "7 8"), ("undo", "ok"), ("undo", "ok"), ("size", "7"), ("undo", "ok"), ("spent", "6"),
                     ("undo", "ok"), ("spent", "4"), ("undo", "ok"), ("size", "1"), ("spent", "0"))
        self.check(console, "undo", Nothing)

    def test_against_a_live_log(self):
        for seed in range(40):
            chance = random.Random(seed)
            console, live = Console(), LiveLog(1)
            for _ in range(60):
                number = chance.choice([-1, 0, 1, 2, 5, 7, 30, 10 ** 9, 2 ** 80, live.present, live.present - 1])
                word = chance.choice(["append", "append", "cut", "mark", "mark", "undo", "shown"])
                command = word if word in ("mark", "undo") else f"{word} {number}"
                try:
                    told_so = getattr(live, word)(*([] if word in ("mark", "undo") else [number]))
                except LogError as error:
                    self.check(console, command, error.__class__, vars(error))
                else:
                    answer = told(told_so) if word == "shown" else "ok"
                    self.assertEqual(console.execute(command), answer)
                marks = " ".join(str(mark) for mark in live.marks) or "none"
                self.assertEqual(state_of(console), [str(live.present), str(live.spent), marks])

    def test_questions_against_the_functions(self):
        for size in [*range(1, 12), *GREAT[::6], MOST]:
            console = console_with(f"log {size}")
            for entry in marked_entries(size)[::7]:
                self.answers(console, (f"path {entry}", told(path(size, entry))),
                             (f"older {entry + 1}", told(older_list(size, entry + 1))),
                             (f"needed {entry}", told(needed(size, [(entry, entry + 1)]))),
                             (f"missing {entry}-{entry + 1}", told(missing(size, [(entry, entry + 1)]))))
            picked = marked_entries(size)[:12]
            numbers = " ".join(str(entry) for entry in picked)
            nodes = needed(size, [(entry, entry + 1) for entry in picked])
            self.answers(console, (f"needed {numbers}", told(nodes)), (f"missing 0-{size}", "none"))
            self.answers(console, (f"missing {text_of(peaks(size)[1:61])}", told(missing(size, peaks(size)[1:61])))
                         if len(peaks(size)) > 1 else ("size", str(size)))

    def test_consoles_are_apart(self):
        first, second = Console(), Console()
        first.execute("append 6")
        self.answers(second, ("size", "1"))
        self.answers(first, ("size", "7"))

    def test_a_long_answer(self):
        step = 2 ** 99 // 64
        nodes = [(place * step + 12345, place * step + 12346) for place in range(60)]
        console = console_with(f"log {MOST}")
        rest = missing(MOST, nodes)
        self.assertGreater(len(rest), 4000)
        self.answers(console, (f"missing {text_of(nodes)}", text_of(rest)))

    def test_200_calls(self):
        console = Console()
        for turn in range(100):
            self.answers(console, ("append 1", "ok"), ("mark", "ok"), ("size", str(turn + 2)))
        self.answers(console, ("marks", " ".join(str(mark) for mark in range(2, 102))))
        for _ in range(200):
            self.answers(console, ("undo", "ok"))
        self.answers(console, ("size", "1"), ("spent", "0"), ("marks", "none"))
        self.check(console, "undo", Nothing)


class JudgeTest(ConsoleTest):
    def test_right(self):
        for size in [*range(1, 14), *GREAT[::9], MOST]:
            console = console_with(f"log {size}")
            for entry in marked_entries(size)[::9]:
                nodes = path(size, entry)
                for given in (nodes, nodes[::-1], nodes[1::2] + nodes[::2]):
                    self.answers(console, (f"judge {entry} {text_of(given)}", "right"))

    def test_more_nodes_than_a_list_of_nodes_may_have(self):
        console = console_with(f"log {2 ** 80}")
        nodes = path(2 ** 80, 12345)
        self.assertEqual(len(nodes), 80)
        self.answers(console, (f"judge 12345 {text_of(nodes[::-1])}", "right"))
        self.check(console, f"judge 12345 {text_of(nodes[1:])}", InvalidNodes, {"item": None})
        self.check(console, f"judge 12344 {text_of(nodes)}", InvalidNodes, {"item": None})
        self.check(console, f"judge 12345 {text_of(nodes + nodes[:1])}", InvalidNodes, {"item": None})
        # Sixty of them are a list of nodes again.
        self.answers(console, (f"judge 12345 {text_of(nodes[20:])}", "wrong"))

    def test_serves(self):
        for size in range(2, 14):
            console = console_with(f"log {size}")
            for entry in range(size):
                nodes = path(size, entry)
                for place, node in enumerate(nodes):
                    rest = nodes[:place] + nodes[place + 1:]
                    self.answers(console, (f"judge {entry} {text_of(nodes + [node])}", "serves"))
                    if rest:
                        self.answers(console, (f"judge {entry} {text_of(rest)}", "wrong"))
                    if node[1] - node[0] > 1:
                        self.answers(console, (f"judge {entry} {text_of(rest + [*halves(size, node)])}", "serves"))
                        self.answers(console, (f"judge {entry} {text_of(rest + [halves(size, node)[0]])}", "wrong"))
                for more in ((entry, entry + 1), (0, size)):
                    self.answers(console, (f"judge {entry} {text_of(nodes + [more])}", "wrong"))

    def test_an_empty_text(self):
        self.answers(Console(), ("judge 0 ", "right"))
        console = console_with("append 6")
        self.check(console, "judge 5 ", InvalidNodes, {"item": None})
        self.check(console, "judge 7 ", InvalidEntry)
        self.check(console, "missing ", InvalidNodes, {"item": None})
        self.check(Console(), "missing ", InvalidNodes, {"item": None})

    def test_entries_go_ahead_of_texts(self):
        console = console_with("append 6")
        for entry in (-1, 7, 8, MOST, 10 ** 99, -(10 ** 99)):
            for text in ("0-4", "", "x", "0-4,  4-7", "\n", " ", "0-8"):
                self.check(console, f"judge {entry} {text}", InvalidEntry)

    def test_wrong_texts(self):
        console = console_with("append 6")
        for wrong in WRONG_PARTS:
            self.check(console, f"judge 5 {wrong}", InvalidText, {"part": 0})
            self.check(console, f"judge 5 0-4, {wrong}", InvalidText, {"part": 1})
            self.check(console, f"judge 5 0-4, 4-5, {wrong}, 6-7", InvalidText, {"part": 2})
            self.check(console, f"missing {wrong}", InvalidText, {"part": 0})
            self.check(console, f"missing 0-4, {wrong}, 0-8", InvalidText, {"part": 1})
        for ahead in ("missing ", "judge 5 "):
            for text, part in (("0-4,  4-7", 1), (" 0-4", 0), ("0-4 ", 0), ("0-4, ", 1), (", 0-4", 0), (" ", 0),
                               ("  ", 0), ("0-4, 4-7\n", 1), ("\n", 0), ("0-4\n, 4-7", 0), ("0-4,\n4-7", 0),
                               ("none", 0)):
                self.check(console, ahead + text, InvalidText, {"part": part})

    def test_too_many_nodes(self):
        console = console_with("append 6")
        for ahead in ("missing ", "judge 5 "):
            self.check(console, ahead + ", ".join(["0-4"] * 61), InvalidNodes, {"item": None})
            self.check(console, ahead + ", ".join(["0-4"] * 61 + ["0-8"]), InvalidText, {"part": 61})
        self.answers(console, ("missing " + ", ".join(["0-4"] * 60), "4-7"),
                     ("judge 5 " + ", ".join(["0-4"] * 60), "wrong"))


class WrongCommandsTest(ConsoleTest):
    def refuse(self, command, *consoles):
        for console in consoles or (console_with("append 6", "mark"),):
            self.check(console, command, InvalidCommand)

    def test_no_strings(self):
        for value in NO_INTEGERS + FAR_INTEGERS + [[], ["size"], ("size",), b"size", {"size": 1}, 0, 1]:
            if not isinstance(value, str):
                self.refuse(value)

    def test_no_commands(self):
        for command in ("", " ", "  ", "\n", "x", "Size", "SIZE", "sizes", "siz", "present", "help", "preview",
                        "budget 3", "log()", "ok", "none", "0", "7", "1 append", "-", "append6", "append-6", "needed2",
                        "mark()",
                        "tops", "known", "serves", "right", "missing4-7", "judge5", "\u0161ize", "size\u00a0",
                        "\ud800"):
            self.refuse(command)

    def test_numbers(self):
        for word in WITH_A_NUMBER:
            for number in NO_NUMBERS:
                self.refuse(f"{word} {number}")
                self.refuse(f"{word} {number} 1")
                self.refuse(f"{word} 1 {number}")
        for number in NO_NUMBERS:
            self.refuse(f"judge {number} 0-4")
            self.refuse(f"judge {number} ")
            self.refuse(f"judge {number}")
            self.refuse(f"needed 0 1 {number} 2")

    def test_numbers_of_100_digits(self):
        console = console_with("append 6", "mark")
        for number in (10 ** 99, 10 ** 100 - 1, -(10 ** 99), 1 - 10 ** 100):
            for word, kind in (("log", InvalidSize), ("append", InvalidNumber), ("cut", InvalidSize),
                               ("path", InvalidEntry), ("older", InvalidSize), ("shown", InvalidSize)):
                self.check(console, f"{word} {number}", kind)
            self.check(console, f"needed {number}", InvalidSpans, {"item": 0})
            self.check(console, f"judge {number} 0-4", InvalidEntry)

    def test_too_few_and_too_many_words(self):
        for word in WITH_A_NUMBER:
            self.refuse(word)
            if word != "needed":
                self.refuse(f"{word} 1 2")
                self.refuse(f"{word} 1 1")
        for word in WITHOUT_NUMBERS:
            self.refuse(f"{word} 1")
            self.refuse(f"{word} {word}")
            self.refuse(f"{word} -")
        for command in ("missing", "judge", "judge ", "judge 5", "judge  ", "judge  5 0-4", "judge  0-4", "judge 0-4"):
            self.refuse(command, Console(), console_with("append 6"))

    def test_spaces_and_newlines(self):
        commands = ["append 1", "mark", "cut 1", "undo", "size", "spent", "marks", "path 0", "older 1", "shown 7",
                    "log 3", "needed 0 1", "missing 0-4", "judge 5 0-4"]
        for command in commands:
            word, _, rest = command.partition(" ")
            for other in (f" {command}", f"  {command}", f"\n{command}", f"\t{command}", f"{word}\n{rest}", f"{word}\n",
                          f"{word}\n {rest}", f"{word}\t{rest}"):
                self.refuse(other)
            if word not in ("missing", "judge"):
                for other in (f"{command} ", f"{command}\n", f"{command}  ", f"{word}  {rest}", f"{word} \n{rest}",
                              f"{command} \n", f"{word} {rest} 1 ", f"{command}\t"):
                    self.refuse(other)
        self.refuse("needed 0  1")
        self.refuse("needed 0\n1")
        self.refuse("judge 5\n0-4")
        self.refuse("judge\n5 0-4")
        self.refuse("judge 5\n 0-4")
        self.refuse("judge \n5 0-4")

    def test_how_many_numbers_are_needed(self):
        console = console_with("log 40")
        for many in range(1, 13):
            numbers = " ".join(str(2 * place) for place in range(many))
            nodes = needed(40, [(2 * place, 2 * place + 1) for place in range(many)])
            self.answers(console, (f"needed {numbers}", told(nodes)))
        for many in (13, 14, 60):
            self.refuse("needed " + " ".join(str(place) for place in range(many)), console)
        self.refuse("needed " + " ".join(["99"] * 13), console)

    def test_wrong_numbers_of_needed(self):
        console = console_with("append 6")
        for numbers, item in (("-1", 0), ("7", 0), ("0 0", 1), ("1 0", 1), ("0 7", 1), ("0 1 1", 2), ("0 2 1", 2),
                              ("5 6 7", 2), ("-1 0", 0), ("0 -1", 1), (f"0 {MOST}", 1), ("3 3 3", 1), ("8 0 1", 0),
                              ("0 1 2 3 4 5 6 7", 7), ("0 1 2 3 4 5 6 6", 7)):
            self.check(console, f"needed {numbers}", InvalidSpans, {"item": item})
        self.answers(console, ("needed 0 1 2 3 4 5 6", "none"), ("needed 6", "0-4, 4-6"))

    def test_errors_of_the_calls(self):
        console = console_with("append 6", "mark", "append 2")
        for number in (0, -1, MOST + 1, 10 ** 40, -(10 ** 40)):
            self.check(console, f"log {number}", InvalidSize)
        for number in (0, -1, MOST, MOST - 8, -(10 ** 40)):
            self.check(console, f"append {number}", InvalidNumber)
        for number in (0, -1, 10, 11, MOST, 10 ** 40):
            self.check(console, f"cut {number}", InvalidSize)
            self.check(console, f"older {number}", InvalidSize)
        for number in (-1, 9, 10, MOST, 10 ** 40):
            self.check(console, f"path {number}", InvalidEntry)
        for number in (0, -1, 1, 6, 8, 9, 10, MOST):
            self.check(console, f"shown {number}", InvalidSize)
        self.answers(console, ("shown 7", told(older_list(9, 7))), ("undo", "ok"), ("undo", "ok"), ("undo", "ok"))
        self.check(console, "undo", Nothing)

    def test_refused_commands_are_not_taken_back(self):
        console = console_with("append 6")
        for command in ("append 0", "cut 9", "log 0", "mark 1", "undo 1", "x", "missing ", "judge 9 ", "needed 9"):
            self.assertRaises(LogError, console.execute, command)
        self.answers(console, ("size", "7"), ("undo", "ok"), ("size", "1"))
        self.check(console, "undo", Nothing)

    def test_questions_change_nothing(self):
        console = console_with("append 6", "mark", "append 4")
        before = state_of(console)
        self.answers(console, ("path 3", told(path(11, 3))), ("older 5", told(older_list(11, 5))),
                     ("shown 7", told(older_list(11, 7))), ("needed 1 2", told(needed(11, [(1, 3)]))),
                     ("missing 0-8", "8-11"), ("judge 3 0-8", "wrong"))
        self.assertEqual(state_of(console), before)
        self.answers(console, ("undo", "ok"), ("undo", "ok"), ("undo", "ok"), ("size", "1"))

    def test_nodes_of_the_present_size(self):
        console = console_with("append 6")
        for node in plain_tree(7):
            self.answers(console, (f"missing {text_of([node])}", told(missing(7, [node]))))
        for text in NO_NODE_TEXTS:
            self.check(console, f"missing {text}", InvalidText, {"part": 0})
        console.execute("append 1")
        self.answers(console, ("missing 0-8", "none"), ("missing 4-8", "0-4"))
        self.check(console, "missing 4-7", InvalidText, {"part": 0})


if __name__ == "__main__":
    unittest.main()
