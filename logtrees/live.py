"""Logs that grow, with undo and a budget of sums."""

from logtrees.checks import MOST_ENTRIES, check_number_between, check_older, check_size, is_whole
from logtrees.errors import InvalidBudget, InvalidOperation, InvalidSize, Nothing, OverBudget
from logtrees.older import older_list
from logtrees.work import append_sums, root_sums

# The calls that are operations, with how many parameters each one has.
PARAMETERS = {"append": 1, "mark": 0, "cut": 1}


def _is_operation(value):
    """Tell whether any value is a tuple with the word of a call and as many items as it has parameters."""
    if not isinstance(value, tuple) or len(value) == 0 or not isinstance(value[0], str):
        return False
    return value[0] in PARAMETERS and len(value) == 1 + PARAMETERS[value[0]]


class LiveLog:
    """A log that grows."""

    def __init__(self, size):
        check_size(size)
        # A state is a tuple (present, marks, spent), so that what undo gives back cannot have changed.
        self._state = (size, (), 0)
        self._calls = []

    def __eq__(self, other):
        if not isinstance(other, LiveLog) or isinstance(other, BudgetLog):
            return False
        return self._state == other._state

    @property
    def present(self):
        """The size now."""
        return self._state[0]

    @property
    def marks(self):
        """The ascending list of the sizes whose roots are published."""
        return list(self._state[1])

    @property
    def spent(self):
        """How many sums have been computed since the object was made."""
        return self._state[2]

    def append(self, number):
        """Put so many entries behind."""
        self._perform(("append", number))

    def mark(self):
        """Publish the root of the present size."""
        self._perform(("mark",))

    def cut(self, size):
        """Leave the log its first so many entries."""
        self._perform(("cut", size))

    def undo(self):
        """Take back the last call that is not taken back yet."""
        if not self._calls:
            raise Nothing("there is no call to take back")
        _, self._state = self._calls.pop()

    def log(self):
        """List the calls that are not taken back."""
        return [operation for operation, _ in self._calls]

    def shown(self, older):
        """List the nodes that show a marked older log within the present one."""
        if not is_whole(older) or older not in self._state[1]:
            raise InvalidSize("an older size that is shown is one of the marks")
        return older_list(self.present, older)

    def preview(self, *operations):
        """Return what would be spent behind the operations."""
        for operation in operations:
            if not _is_operation(operation):
                raise InvalidOperation("an operation is a tuple of a call's word and its arguments")
        state = self._state
        for operation in operations:
            state = self._behind(state, operation)
        return state[2]

    def _perform(self, operation):
        """Perform an operation and keep the state ahead of it for undo."""
        state = self._behind(self._state, operation)
        self._calls.append((operation, self._state))
        self._state = state

    def _behind(self, state, operation):
        """Return the state behind an operation."""
        present, marks, spent = state
        if operation[0] == "append":
            number = operation[1]
            check_number_between(number, 1, MOST_ENTRIES - present)
            return (present + number, marks, spent + append_sums(present, number))
        if operation[0] == "cut":
            size = operation[1]
            check_older(present, size)
            return (size, tuple([mark for mark in marks if mark <= size]), spent)
        if present in marks:
            return state
        # No mark is beyond the present size, so the marks stay ascending.
        return (present, marks + (present,), spent + root_sums(present))


class BudgetLog(LiveLog):
    """A log that grows and computes no more sums than its budget allows."""

    def __init__(self, size, budget):
        LiveLog.__init__(self, size)
        if not is_whole(budget) or budget < 0:
            raise InvalidBudget("a budget is an integer from 0")
        self._budget = budget

    def __eq__(self, other):
        if not isinstance(other, BudgetLog):
            return False
        return self._state == other._state and self._budget == other._budget

    @property
    def budget(self):
        """How many sums may be computed."""
        return self._budget

    def _behind(self, state, operation):
        """Return the state behind an operation that the budget allows."""
        told = super()._behind(state, operation)
        if told[2] > self._budget:
            raise OverBudget(told[2])
        return told
