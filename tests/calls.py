"""All functions of the interface that raise errors, with right arguments and wrong values for each parameter."""

from logtrees import compact, console, depths, known, live, needs, older, papers, shapes, texts, tiles, work
from logtrees.errors import (
    InvalidBounds, InvalidEntry, InvalidHeight, InvalidNode, InvalidNodes, InvalidNumber, InvalidSize, InvalidSpan,
    InvalidSpans, InvalidText,
)
from tests.plain import FAR_INTEGERS, MOST, NO_INTEGERS, NO_SIZES, no_nodes
from tests.wrong_lists import NO_LISTS, NODES, WRONG_BOUNDS, WRONG_COUNTS, WRONG_NODES, WRONG_PARTS, WRONG_SPANS

NO_ENTRIES = NO_INTEGERS + FAR_INTEGERS + [7, 8]
NO_ENDS = NO_INTEGERS + FAR_INTEGERS + [8, 9, 3, 2, 0]
NO_OLDER = NO_SIZES + [8, 9]
NO_BEGINS = NO_INTEGERS + FAR_INTEGERS + [11, 12, MOST]
NO_FAR_ENDS = NO_INTEGERS + FAR_INTEGERS + [0, 2, 3]
NO_SPANS = [value for value, _ in WRONG_SPANS]
NO_BOUNDS = [value for value, _ in WRONG_BOUNDS]
NO_SHOWN = [value for value, _ in WRONG_NODES]
NO_NODES = [value for value, _ in WRONG_NODES + WRONG_COUNTS]
NO_HEIGHTS = NO_SIZES + [31, 32, 60]
NO_HIGHS = NO_SIZES + [6, 1]
BELOW_ZERO = [-1, -2, -(10 ** 30), -(10 ** 99), -(10 ** 999)]
NO_COUNTS = NO_INTEGERS + BELOW_ZERO
NO_MORE = NO_INTEGERS + FAR_INTEGERS + [MOST, MOST - 6]
NO_STEPS = NO_COUNTS + [0]
NO_MANY = NO_INTEGERS + FAR_INTEGERS + [MOST, MOST // 2]
NO_TEXTS = [value for value in NO_LISTS if not isinstance(value, str)] + [b"0-4", [(0, 4)], ["0-4"]]
NO_TEXTS += [word for word in WRONG_PARTS if len(word) < 500]

# Each function with right arguments, and for each parameter that has an error the error and wrong values.
CALLS = [
    (shapes.peaks, (7,), [(InvalidSize, NO_SIZES)]),
    (shapes.edges, (7,), [(InvalidSize, NO_SIZES)]),
    (shapes.is_node, (7, (4, 7)), [(InvalidSize, NO_SIZES)]),
    (shapes.halves, (7, (4, 7)), [(InvalidSize, NO_SIZES), (InvalidNode, no_nodes(7))]),
    (shapes.parent, (7, (4, 7)), [(InvalidSize, NO_SIZES), (InvalidNode, no_nodes(7))]),
    (shapes.sibling, (7, (4, 7)), [(InvalidSize, NO_SIZES), (InvalidNode, no_nodes(7))]),
    (shapes.node_count, (7,), [(InvalidSize, NO_SIZES)]),
    (shapes.common_count, (7, 5), [(InvalidSize, NO_SIZES), (InvalidSize, NO_SIZES)]),
    (shapes.height_count, (7, 1), [(InvalidSize, NO_SIZES), (InvalidNumber, NO_INTEGERS)]),
    (depths.depth, (7, 5), [(InvalidSize, NO_SIZES), (InvalidEntry, NO_ENTRIES)]),
    (depths.path, (7, 5), [(InvalidSize, NO_SIZES), (InvalidEntry, NO_ENTRIES)]),
    (depths.depth_sum, (7, 3, 6), [(InvalidSize, NO_SIZES), (InvalidSpan, NO_ENTRIES), (InvalidSpan, NO_ENDS)]),
    (depths.depth_range, (7, 3, 6), [(InvalidSize, NO_SIZES), (InvalidSpan, NO_ENTRIES), (InvalidSpan, NO_ENDS)]),
    (depths.first_of_depth, (7, 2), [(InvalidSize, NO_SIZES), (InvalidNumber, NO_INTEGERS)]),
    (depths.sizes_with, (5, 3, 20), [
        (InvalidEntry, NO_INTEGERS + FAR_INTEGERS + [MOST]), (InvalidNumber, NO_INTEGERS), (InvalidSize, NO_SIZES),
    ]),
    (needs.needed, (7, [(2, 3), (5, 6)]), [(InvalidSize, NO_SIZES), (InvalidSpans, NO_SPANS)]),
    (needs.needed_count, (7, [(2, 3), (5, 6)]), [(InvalidSize, NO_SIZES), (InvalidSpans, NO_SPANS)]),
    (needs.needed_both, (7, [(2, 3)], [(0, 1), (5, 6)]), [
        (InvalidSize, NO_SIZES), (InvalidSpans, NO_SPANS), (InvalidSpans, NO_SPANS),
    ]),
    (needs.spared, (7, [(2, 3), (5, 6)]), [(InvalidSize, NO_SIZES), (InvalidSpans, NO_SPANS)]),
    (older.older_list, (7, 3), [(InvalidSize, NO_SIZES), (InvalidSize, NO_OLDER)]),
    (older.older_count, (7, 3), [(InvalidSize, NO_SIZES), (InvalidSize, NO_OLDER)]),
    (older.longest_older, (7,), [(InvalidSize, NO_SIZES)]),
    (compact.compact, (3, 11), [(InvalidSpan, NO_BEGINS), (InvalidSpan, NO_FAR_ENDS)]),
    (compact.compact_count, (3, 11), [(InvalidSpan, NO_BEGINS), (InvalidSpan, NO_FAR_ENDS)]),
    (compact.greatest, (3, 11), [(InvalidSpan, NO_BEGINS), (InvalidSpan, NO_FAR_ENDS)]),
    (compact.join_sums, ([3, 11, 12],), [(InvalidBounds, NO_BOUNDS)]),
    (work.append_sums, (7, 5), [(InvalidSize, NO_SIZES), (InvalidNumber, NO_MORE)]),
    (work.root_sums, (7,), [(InvalidSize, NO_SIZES)]),
    (work.roots_total, (7, 12), [(InvalidSize, NO_SIZES), (InvalidSize, NO_HIGHS)]),
    (work.roots_by_steps, (7, 2, 5), [(InvalidSize, NO_SIZES), (InvalidNumber, NO_STEPS), (InvalidNumber, NO_MANY)]),
    (work.cheapest, (7, 12), [(InvalidSize, NO_SIZES), (InvalidSize, NO_HIGHS)]),
    (work.costliest, (7, 12), [(InvalidSize, NO_SIZES), (InvalidSize, NO_HIGHS)]),
    (tiles.tile_count, (7, 2), [(InvalidSize, NO_SIZES), (InvalidHeight, NO_HEIGHTS)]),
    (tiles.tile_width, (7, 2, 0, 1), [
        (InvalidSize, NO_SIZES), (InvalidHeight, NO_HEIGHTS), (InvalidNumber, NO_COUNTS), (InvalidNumber, NO_COUNTS),
    ]),
    (tiles.tiles_of, (7, 2, [(3, 4), (4, 7)]), [
        (InvalidSize, NO_SIZES), (InvalidHeight, NO_HEIGHTS), (InvalidNodes, NO_NODES),
    ]),
    (tiles.changed_tiles, (7, 2, 5), [(InvalidSize, NO_SIZES), (InvalidHeight, NO_HEIGHTS), (InvalidSize, NO_OLDER)]),
    (known.gives_root, (7, [(0, 4), (5, 6)]), [(InvalidSize, NO_SIZES), (InvalidNodes, NO_NODES)]),
    (known.known_tops, (7, [(0, 4), (5, 6)]), [(InvalidSize, NO_SIZES), (InvalidNodes, NO_NODES)]),
    (known.missing, (7, [(0, 4), (5, 6)]), [(InvalidSize, NO_SIZES), (InvalidNodes, NO_NODES)]),
    (known.needless, (7, [(0, 4), (5, 6)]), [(InvalidSize, NO_SIZES), (InvalidNodes, NO_NODES)]),
    (papers.shows_needed, (7, [(2, 3), (5, 6)], [(0, 2)]), [(InvalidSize, NO_SIZES), (InvalidSpans, NO_SPANS)]),
    (papers.serves, (7, [(2, 3), (5, 6)], [(0, 2)]), [
        (InvalidSize, NO_SIZES), (InvalidSpans, NO_SPANS), (InvalidNodes, NO_NODES),
    ]),
    (papers.first_wrong, (7, [(2, 3), (5, 6)], [(0, 2)]), [
        (InvalidSize, NO_SIZES), (InvalidSpans, NO_SPANS), (InvalidNodes, NO_NODES),
    ]),
    (papers.lacking, (7, [(2, 3), (5, 6)], [(0, 2)]), [
        (InvalidSize, NO_SIZES), (InvalidSpans, NO_SPANS), (InvalidNodes, NO_NODES),
    ]),
    (texts.show_nodes, (7, [(0, 4), (5, 6)]), [(InvalidSize, NO_SIZES), (InvalidNodes, NO_SHOWN)]),
    (texts.read_nodes, (7, "0-4, 5-6"), [(InvalidSize, NO_SIZES), (InvalidText, NO_TEXTS)]),
]

# The functions that take lists, each with right arguments, the place of a list, and wrong values with their items.
LISTS = [
    (needs.needed, (7, [(2, 3)]), 1, WRONG_SPANS), (needs.needed_count, (7, [(2, 3)]), 1, WRONG_SPANS),
    (needs.needed_both, (7, [(2, 3)], [(5, 6)]), 1, WRONG_SPANS), (needs.spared, (7, [(2, 3)]), 1, WRONG_SPANS),
    (needs.needed_both, (7, [(2, 3)], [(5, 6)]), 2, WRONG_SPANS), (compact.join_sums, ([3, 11],), 0, WRONG_BOUNDS),
    (papers.shows_needed, (7, [(2, 3)], None), 1, WRONG_SPANS), (papers.serves, (7, [(2, 3)], NODES), 1, WRONG_SPANS),
    (papers.first_wrong, (7, [(2, 3)], NODES), 1, WRONG_SPANS), (papers.lacking, (7, [(2, 3)], NODES), 1, WRONG_SPANS),
    (tiles.tiles_of, (7, 2, NODES), 2, WRONG_NODES + WRONG_COUNTS),
    (known.gives_root, (7, NODES), 1, WRONG_NODES + WRONG_COUNTS),
    (known.known_tops, (7, NODES), 1, WRONG_NODES + WRONG_COUNTS),
    (known.missing, (7, NODES), 1, WRONG_NODES + WRONG_COUNTS),
    (known.needless, (7, NODES), 1, WRONG_NODES + WRONG_COUNTS),
    (papers.serves, (7, [(2, 3)], NODES), 2, WRONG_NODES + WRONG_COUNTS),
    (papers.first_wrong, (7, [(2, 3)], NODES), 2, WRONG_NODES + WRONG_COUNTS),
    (papers.lacking, (7, [(2, 3)], NODES), 2, WRONG_NODES + WRONG_COUNTS),
    (texts.show_nodes, (7, NODES), 1, WRONG_NODES),
]

PARAMETERS = {
    shapes: {
        "peaks": ["size"], "edges": ["size"], "is_node": ["size", "value"], "halves": ["size", "node"],
        "parent": ["size", "node"], "sibling": ["size", "node"], "node_count": ["size"],
        "common_count": ["size", "other"], "height_count": ["size", "number"],
    },
    depths: {
        "depth": ["size", "entry"], "path": ["size", "entry"], "depth_sum": ["size", "begin", "end"],
        "depth_range": ["size", "begin", "end"], "first_of_depth": ["size", "number"],
        "sizes_with": ["entry", "number", "most"],
    },
    needs: {
        "needed": ["size", "spans"], "needed_count": ["size", "spans"], "needed_both": ["size", "spans", "others"],
        "spared": ["size", "spans"],
    },
    older: {"older_list": ["size", "older"], "older_count": ["size", "older"], "longest_older": ["size"]},
    compact: {
        "compact": ["begin", "end"], "compact_count": ["begin", "end"], "greatest": ["begin", "end"],
        "join_sums": ["bounds"],
    },
    work: {
        "append_sums": ["size", "number"], "root_sums": ["size"], "roots_total": ["low", "high"],
        "roots_by_steps": ["size", "step", "number"], "cheapest": ["low", "high"], "costliest": ["low", "high"],
    },
    tiles: {
        "tile_count": ["size", "height"], "tile_width": ["size", "height", "level", "number"],
        "tiles_of": ["size", "height", "nodes"], "changed_tiles": ["size", "height", "older"],
    },
    known: {
        "gives_root": ["size", "nodes"], "known_tops": ["size", "nodes"], "missing": ["size", "nodes"],
        "needless": ["size", "nodes"],
    },
    papers: {
        "shows_needed": ["size", "spans", "value"], "serves": ["size", "spans", "nodes"],
        "first_wrong": ["size", "spans", "nodes"], "lacking": ["size", "spans", "nodes"],
    },
    texts: {"show_nodes": ["size", "nodes"], "read_nodes": ["size", "text"]},
}

# The methods and properties that the interface lists for each class, with the parameters behind self.
CLASSES = {
    live.LiveLog: {
        "__init__": ["size"], "__eq__": ["other"], "present": None, "marks": None, "spent": None, "append": ["number"],
        "mark": [], "cut": ["size"], "undo": [], "log": [], "shown": ["older"], "preview": ["operations"],
    },
    live.BudgetLog: {"__init__": ["size", "budget"], "__eq__": ["other"], "budget": None},
    console.Console: {"__init__": [], "execute": ["command"]},
}
