"""How deep entries lie in tree(size), and their paths."""

from logtrees.checks import MOST_ENTRIES, check_entry, check_number, check_size, check_span
from logtrees.shapes import halves, peaks


def depth(size, entry):
    """Return the number of nodes that have an entry, its leaf not counted."""
    return len(path(size, entry))


def path(size, entry):
    """List the siblings of an entry's leaf, of the leaf's parent, and so on up to the halves of the root."""
    check_size(size)
    check_entry(size, entry)
    siblings = []
    node = (0, size)
    while node != (entry, entry + 1):
        low, high = halves(size, node)
        if entry < low[1]:
            node = low
            siblings.append(high)
        else:
            node = high
            siblings.append(low)
    return siblings[::-1]


def _peak_depths(size):
    """List (begin, end, depth) for each peak: all entries of a peak have the same depth."""
    tops = peaks(size)
    rows = []
    for place, (begin, end) in enumerate(tops):
        # One edge more lies over each next peak; the last two peaks are the halves of the last edge.
        above = min(place + 1, len(tops) - 1)
        rows.append((begin, end, above + (end - begin).bit_length() - 1))
    return rows


def _depths_between(size, begin, end):
    """List (count, depth) for each peak that has so many of the entries from begin to end - 1."""
    rows = []
    for first, last, deep in _peak_depths(size):
        count = min(end, last) - max(begin, first)
        if count > 0:
            rows.append((count, deep))
    return rows


def depth_sum(size, begin, end):
    """Return the sum of the depths of the entries from begin to end - 1."""
    check_size(size)
    check_span(size, begin, end)
    return sum([count * deep for count, deep in _depths_between(size, begin, end)])


def depth_range(size, begin, end):
    """Return the tuple of the least and the greatest depth of the entries from begin to end - 1."""
    check_size(size)
    check_span(size, begin, end)
    found = [deep for _, deep in _depths_between(size, begin, end)]
    return (min(found), max(found))


def first_of_depth(size, number):
    """Return the first entry with a depth, None if none has it."""
    check_size(size)
    check_number(number)
    for first, _, deep in _peak_depths(size):
        if deep == number:
            return first
    return None


def _next_end(entry, end):
    """Return the end of the least full node that has the entry and ends behind the given end."""
    room = 1
    while entry - entry % room + room <= end:
        room = room * 2
    return entry - entry % room + room


def sizes_with(entry, number, most):
    """List the tuples (first, last) for the sizes, at most `most`, at which an entry has a depth."""
    check_entry(MOST_ENTRIES, entry)
    check_number(number)
    check_size(most)
    first = last = entry + 1
    deep = depth(first, entry)
    # One more entry in the log puts those of the last peak one deeper, and no others. So a depth stays up to the
    # next size whose last peak has the entry, never comes again, and there is one stretch at most.
    while deep < number and first <= most:
        first = last + 1
        last = _next_end(entry, last)
        deep += 1
    if deep != number or first > most:
        return []
    return [(first, min(last, most))]
