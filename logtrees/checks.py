"""What makes an argument valid, for all modules that take it."""

from logtrees.errors import (
    InvalidEntry, InvalidHeight, InvalidNode, InvalidNodes, InvalidNumber, InvalidSize, InvalidSpan, InvalidSpans,
)

MOST_ENTRIES = 10 ** 30
MOST_SPANS = 12
MOST_NODES = 60
MOST_HEIGHT = 30


def is_whole(value):
    """Tell whether any value is an integer; True and False are none."""
    return isinstance(value, int) and not isinstance(value, bool)


def is_between(value, low, high):
    """Tell whether any value is an integer from low to high."""
    return is_whole(value) and low <= value <= high


def is_tree_node(size, value):
    """Tell whether any value is a node of the tree of a valid size."""
    if not isinstance(value, tuple) or len(value) != 2:
        return False
    begin, end = value
    if not is_between(begin, 0, size - 1) or not is_between(end, begin + 1, size):
        return False
    # Nodes of one height begin at the multiples of the same power of two. Only the log's end can cut one short.
    room = 1 << (end - begin - 1).bit_length()
    return begin % room == 0 and (end - begin == room or end == size)


def is_list_of(value, least, most):
    """Tell whether any value is a list of so many items."""
    return isinstance(value, list) and least <= len(value) <= most


def is_span_from(size, value, least):
    """Tell whether any value is a tuple (first, end) of a stretch in a log that begins at an entry or behind it."""
    if not isinstance(value, tuple) or len(value) != 2:
        return False
    first, end = value
    return is_between(first, least, size - 1) and is_between(end, first + 1, size)


def check_size(size):
    """Raise InvalidSize unless the value is a size."""
    if not is_between(size, 1, MOST_ENTRIES):
        raise InvalidSize("a size is an integer from 1 to 10 ** 30")


def check_entry(size, entry):
    """Raise InvalidEntry unless the value is an entry of a log with a valid size."""
    if not is_between(entry, 0, size - 1):
        raise InvalidEntry("an entry is an integer from 0, less than the size")


def check_node(size, node):
    """Raise InvalidNode unless the value is a node of the tree of a valid size."""
    if not is_tree_node(size, node):
        raise InvalidNode("a node is a tuple (a, b) that the tree of the size has")


def check_span(size, begin, end):
    """Raise InvalidSpan unless the values begin and end a stretch of entries of a log with a valid size."""
    if not is_between(begin, 0, size - 1):
        raise InvalidSpan("a begin is an integer from 0, less than the size")
    if not is_between(end, begin + 1, size):
        raise InvalidSpan("an end is an integer greater than the begin, at most the size")


def check_spans(size, spans):
    """Raise InvalidSpans unless the value is a list of spans of a log with a valid size."""
    if not is_list_of(spans, 1, MOST_SPANS):
        raise InvalidSpans(None)
    behind = 0
    for item, span in enumerate(spans):
        if not is_span_from(size, span, behind):
            raise InvalidSpans(item)
        behind = span[1]


def check_nodes(size, nodes, least=1, most=MOST_NODES):
    """Raise InvalidNodes unless the value is a list of so many nodes of the tree of a valid size."""
    if not is_list_of(nodes, least, most):
        raise InvalidNodes(None)
    for item, node in enumerate(nodes):
        if not is_tree_node(size, node):
            raise InvalidNodes(item)


def check_older(size, older):
    """Raise InvalidSize unless the value is a size that a log with a valid size has had, the present one included."""
    if not is_between(older, 1, size):
        raise InvalidSize("an older size is an integer from 1, at most the size")


def check_number(number):
    """Raise InvalidNumber unless the value is an integer."""
    if not is_whole(number):
        raise InvalidNumber("a number is an integer")


def check_number_from(number, least):
    """Raise InvalidNumber unless the value is an integer that is at least so great."""
    if not is_whole(number) or number < least:
        raise InvalidNumber(f"a number here is an integer from {least}")


def check_number_between(number, least, most):
    """Raise InvalidNumber unless the value is an integer between two bounds or one of them."""
    if not is_between(number, least, most):
        raise InvalidNumber(f"a number here is an integer from {least} to {most}")


def check_height(height):
    """Raise InvalidHeight unless the value is a height of tiles."""
    if not is_between(height, 1, MOST_HEIGHT):
        raise InvalidHeight("a height of tiles is an integer from 1 to 30")
