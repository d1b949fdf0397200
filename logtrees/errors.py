"""The errors of the package, each one a LogError and a ValueError."""


class LogError(ValueError):
    """Any error of this package."""


class InvalidSpans(LogError):
    """A list of spans is wrong: item is the index of its first wrong item, None if it is no such list at all."""

    def __init__(self, item):
        super().__init__(f"invalid spans, first wrong item: {item}")
        self.item = item


class InvalidNodes(LogError):
    """A list of nodes is wrong: item is the index of its first wrong item, None if it is no such list at all."""

    def __init__(self, item):
        super().__init__(f"invalid nodes, first wrong item: {item}")
        self.item = item


class InvalidBounds(LogError):
    """A list of bounds is wrong: item is the index of its first wrong item, None if it is no such list at all."""

    def __init__(self, item):
        super().__init__(f"invalid bounds, first wrong item: {item}")
        self.item = item


class InvalidText(LogError):
    """A text of nodes is wrong: part is the index of its first wrong part, None if it is no text."""

    def __init__(self, part):
        super().__init__(f"invalid text, first wrong part: {part}")
        self.part = part


class OverBudget(LogError):
    """More sums than the budget allows: count is what would be spent."""

    def __init__(self, count):
        super().__init__(f"over the budget, sums that would be spent: {count}")
        self.count = count


class InvalidSize(LogError):
    """A value is no size of a log, or not one that is asked for."""


class InvalidEntry(LogError):
    """A value is no entry of the log."""


class InvalidNode(LogError):
    """A value is no node of the tree."""


class InvalidSpan(LogError):
    """Two values do not begin and end a stretch of entries."""


class InvalidNumber(LogError):
    """A value is not a number that is asked for."""


class InvalidHeight(LogError):
    """A value is no height of tiles."""


class InvalidBudget(LogError):
    """A value is no budget of sums."""


class InvalidOperation(LogError):
    """A value is no operation of a live log."""


class Nothing(LogError):
    """There is nothing to take back."""


class InvalidCommand(LogError):
    """A value is no command of the console."""
