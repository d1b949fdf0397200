"""Texts of nodes and of lists of nodes."""

from logtrees.checks import check_nodes, check_size, is_tree_node
from logtrees.errors import InvalidText

MOST_SHOWN = 4000
MOST_DIGITS = 100


def text_of(nodes):
    """Return the text of a list of nodes, however many."""
    return ", ".join([f"{begin}-{end}" for begin, end in nodes])


def number_of(word):
    """Return the number that a word is the text of, None if it is none."""
    # Digits of other scripts are digits for isdigit, too.
    if not word.isascii() or not word.isdigit() or len(word) > MOST_DIGITS:
        return None
    if word.startswith("0") and word != "0":
        return None
    return int(word)


def show_nodes(size, nodes):
    """Return the text of a list of nodes of tree(size)."""
    check_size(size)
    check_nodes(size, nodes, 0, MOST_SHOWN)
    return text_of(nodes)


def read_nodes(size, text):
    """List the nodes of tree(size) that have a text."""
    check_size(size)
    if not isinstance(text, str):
        raise InvalidText(None)
    if text == "":
        return []
    nodes = []
    for part, words in enumerate(text.split(", ")):
        first, _, last = words.partition("-")
        node = (number_of(first), number_of(last))
        if not is_tree_node(size, node):
            raise InvalidText(part)
        nodes.append(node)
    return nodes
