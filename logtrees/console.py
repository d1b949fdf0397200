"""A console over a live log."""

from logtrees.checks import MOST_SPANS, check_entry
from logtrees.depths import path
from logtrees.errors import InvalidCommand
from logtrees.known import missing
from logtrees.live import LiveLog
from logtrees.needs import needed
from logtrees.older import older_list
from logtrees.papers import serves, shows_needed
from logtrees.texts import number_of, read_nodes, text_of

# The least and the greatest count of numbers that stand behind the words of commands without a text.
CHANGES = {"log": (1, 1), "append": (1, 1), "mark": (0, 0), "cut": (1, 1), "undo": (0, 0)}
QUESTIONS = {
    "size": (0, 0), "spent": (0, 0), "marks": (0, 0), "path": (1, 1), "older": (1, 1), "shown": (1, 1),
    "needed": (1, MOST_SPANS),
}


def _integer_of(word):
    """Return the integer that a word of a command writes, None if it has not the form."""
    if not word.startswith("-"):
        return number_of(word)
    number = number_of(word[1:])
    # Only what is below 0 has a minus.
    if number is None or number == 0:
        return None
    return -number


def _integers_of(words, bounds):
    """List the integers that words write; InvalidCommand unless all do and there are as many as the bounds tell."""
    least, most = bounds
    numbers = [_integer_of(word) for word in words]
    if None in numbers or not least <= len(numbers) <= most:
        raise InvalidCommand("a word of this command is no number, or there are too few or too many")
    return numbers


def _told(nodes):
    """Return the text of a list of nodes, `none` for the empty list."""
    return text_of(nodes) or "none"


def _behind_word(text):
    """Return the first word and the text behind it and a space; InvalidCommand if there is no space."""
    word, space, rest = text.partition(" ")
    if space == "":
        raise InvalidCommand("this command has a text, behind a space")
    return (word, rest)


class Console:
    """A console that performs commands on a live log."""

    def __init__(self):
        self._live = LiveLog(1)

    def execute(self, command):
        """Perform a command and return its answer."""
        if not isinstance(command, str):
            raise InvalidCommand("a command is a string")
        words = command.split(" ")
        if words[0] in CHANGES:
            return self._change(words[0], _integers_of(words[1:], CHANGES[words[0]]))
        if words[0] in QUESTIONS:
            return self._answer(words[0], _integers_of(words[1:], QUESTIONS[words[0]]))
        if words[0] == "missing":
            return self._missing(command)
        if words[0] == "judge":
            return self._judge(command)
        raise InvalidCommand("no command begins with this word")

    def _change(self, word, numbers):
        """Perform a command that changes the live log, or makes a new one."""
        if word == "log":
            self._live = LiveLog(numbers[0])
        elif word == "append":
            self._live.append(numbers[0])
        elif word == "mark":
            self._live.mark()
        elif word == "cut":
            self._live.cut(numbers[0])
        else:
            self._live.undo()
        return "ok"

    def _answer(self, word, numbers):
        """Answer a question about the live log."""
        size = self._live.present
        if word == "size":
            return str(size)
        if word == "spent":
            return str(self._live.spent)
        if word == "marks":
            return " ".join([str(mark) for mark in self._live.marks]) or "none"
        if word == "path":
            return _told(path(size, numbers[0]))
        if word == "older":
            return _told(older_list(size, numbers[0]))
        if word == "shown":
            return _told(self._live.shown(numbers[0]))
        return _told(needed(size, [(number, number + 1) for number in numbers]))

    def _missing(self, command):
        """Answer which nodes are missing beside those with a text."""
        _, text = _behind_word(command)
        size = self._live.present
        return _told(missing(size, read_nodes(size, text)))

    def _judge(self, command):
        """Judge whether the nodes with a text show an entry."""
        _, rest = _behind_word(command)
        word, text = _behind_word(rest)
        entry = _integers_of([word], (1, 1))[0]
        size = self._live.present
        check_entry(size, entry)
        nodes = read_nodes(size, text)
        spans = [(entry, entry + 1)]
        if shows_needed(size, spans, nodes):
            return "right"
        if serves(size, spans, nodes):
            return "serves"
        return "wrong"
