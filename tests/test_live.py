"""Points 2, 3, 9, 11 and 12 and section 12 of the interface: live logs, their undo and their budget."""

import random
import unittest
from functools import lru_cache
from itertools import product

from logtrees.errors import (
    InvalidBudget, InvalidNumber, InvalidOperation, InvalidSize, LogError, Nothing, OverBudget,
)
from logtrees.live import BudgetLog, LiveLog
from logtrees.older import older_list
from tests.plain import FAR_INTEGERS, GREAT, MOST, NO_INTEGERS, NO_SIZES, plain_full, plain_tree

NO_BUDGETS = NO_INTEGERS + [-1, -2, -(10 ** 30), -(10 ** 99), -(10 ** 999)]

# Values that are no operations, whatever the log.
NO_OPERATIONS = NO_INTEGERS + FAR_INTEGERS + [
    0, 1, "append", "mark", "cut", "undo", ["append", 1], ["mark"], ["cut", 1], ("append",), ("mark", 1), ("cut",),
    ("append", 1, 1), ("mark", None), ("cut", 1, 1), ("undo",), ("log",), ("shown", 7), ("preview",), ("size",),
    ("Append", 1), ("append ", 1), (" mark",), ("MARK",), ("", 1), ("",), (b"append", 1), (b"mark",), (None, 1), (1,),
    (1, "append"), (("append", 1),), (("mark",),), (["append"], 1), ([], 1), ({}, 1), ({"mark"},), (True,), (False, 1),
    ("append", 1, None), ("mark", ()), {"append": 1}, ("a", "p"), "mark,", ("marks",), ("spent",), ("budget", 3),
]


@lru_cache(maxsize=None)
def plain_counts(size):
    """Return (full nodes with two or more entries, edges), for small trees from the nodes built one by one."""
    if size > 200:
        return size - bin(size).count("1"), bin(size).count("1") - 1
    tree = plain_tree(size)
    full = [node for node in tree if plain_full(node)]
    return sum(b - a > 1 for a, b in full), len(tree) - len(full)


def plain_run(size, operations):
    """Return (present, marks, spent) behind operations on a new log, one by one."""
    marks, spent = set(), 0
    for word, *more in operations:
        if word == "append":
            spent += plain_counts(size + more[0])[0] - plain_counts(size)[0]
            size += more[0]
        elif word == "cut":
            size = more[0]
            marks = {mark for mark in marks if mark <= size}
        elif size not in marks:
            spent += plain_counts(size)[1]
            marks.add(size)
    return size, sorted(marks), spent


def perform(live, operation):
    return getattr(live, operation[0])(*operation[1:])


def state_of(live):
    told = [live.present, live.marks, live.spent, live.log()]
    return told + [live.budget] if isinstance(live, BudgetLog) else told


def some_operation(chance, size, most):
    """Choose an operation for a log with a size, so that it has at most so many entries behind it."""
    word = chance.choice(["append", "append", "mark", "mark", "cut"])
    if word == "append" and size < most:
        number = chance.choice([1, 1, 2, 3, chance.randint(1, most - size), most - size])
        return ("append", min(number, most - size))
    if word == "cut":
        return ("cut", chance.choice([size, max(1, size - 1), chance.randint(1, size)]))
    return ("mark",)


class ExampleTest(unittest.TestCase):
    def test_all(self):
        live = LiveLog(1)
        self.assertEqual(
            [live.append(6), live.spent, live.mark(), live.spent, live.marks, live.append(1), live.spent,
             live.shown(7)],
            [None, 4, None, 6, [7], None, 9, [(0, 4), (4, 6), (6, 7), (7, 8)]])
        self.assertEqual(
            [live.preview(("cut", 3), ("mark",)), live.log(), live.undo(), live.present, live.spent],
            [10, [("append", 6), ("mark",), ("append", 1)], None, 7, 6])
        with self.assertRaises(OverBudget) as caught:
            BudgetLog(1, 2).append(6)
        self.assertEqual(vars(caught.exception), {"count": 4})


class CallsTest(unittest.TestCase):
    def check(self, live, size, operations):
        self.assertEqual(state_of(live)[:4], [*plain_run(size, operations), operations])

    def test_small_logs(self):
        for seed in range(60):
            chance = random.Random(seed)
            size = chance.randint(1, 20)
            live, done = LiveLog(size), []
            for _ in range(40):
                if done and chance.random() < 0.2:
                    done.pop()
                    self.assertIsNone(live.undo())
                else:
                    done.append(some_operation(chance, live.present, 60))
                    self.assertIsNone(perform(live, done[-1]))
                self.check(live, size, done)
            while done:
                done.pop()
                live.undo()
                self.check(live, size, done)
            self.assertRaises(Nothing, live.undo)
            self.check(live, size, [])

    def test_great_logs(self):
        for seed, size in enumerate(GREAT):
            chance = random.Random(seed)
            live, done = LiveLog(size), []
            for _ in range(30):
                done.append(some_operation(chance, live.present, MOST))
                self.assertIsNone(perform(live, done[-1]))
                self.check(live, size, done)

    def test_all_short_sequences(self):
        calls = [("append", 1), ("append", 2), ("append", 5), ("mark",), ("cut", 1), ("cut", 3), ("cut", 6)]
        for size in (1, 3, 6):
            for operations in product(calls, repeat=4):
                live, done = LiveLog(size), []
                for operation in operations:
                    if operation[0] == "cut" and operation[1] > live.present:
                        self.assertRaises(InvalidSize, perform, live, operation)
                    else:
                        perform(live, operation)
                        done.append(operation)
                self.check(live, size, done)

    def test_200_calls_taken_back_one_by_one(self):
        live, done, states = LiveLog(1), [], []
        for turn in range(200):
            states.append(state_of(live))
            done.append([("append", 3 ** (turn // 4)), ("mark",), ("mark",), ("cut", live.present)][turn % 4])
            perform(live, done[-1])
            self.check(live, 1, done)
        for state in states[::-1]:
            self.assertNotEqual(state_of(live), state)
            live.undo()
            self.assertEqual(state_of(live), state)
        for _ in range(3):
            self.assertRaises(Nothing, live.undo)
            self.assertEqual(state_of(live), [1, [], 0, []])

    def test_calls_that_change_nothing_are_calls(self):
        live = LiveLog(7)
        live.mark()
        live.mark()
        live.cut(7)
        self.assertEqual(state_of(live), [7, [7], 2, [("mark",), ("mark",), ("cut", 7)]])
        live.undo()
        live.undo()
        self.assertEqual(state_of(live), [7, [7], 2, [("mark",)]])
        live.undo()
        self.assertEqual(state_of(live), [7, [], 0, []])

    def test_cut_with_marks_beyond(self):
        live = LiveLog(1)
        for _ in range(9):
            live.mark()
            live.append(1)
        self.assertEqual(live.marks, [1, 2, 3, 4, 5, 6, 7, 8, 9])
        spent = live.spent
        live.cut(6)
        self.assertEqual([live.present, live.marks, live.spent], [6, [1, 2, 3, 4, 5, 6], spent])
        live.cut(5)
        live.append(2)
        self.assertEqual([live.present, live.marks], [7, [1, 2, 3, 4, 5]])
        # The full node (4, 6) is computed again, the edges of 7, too.
        self.assertEqual(live.spent, spent + 1)
        live.mark()
        self.assertEqual([live.marks, live.spent], [[1, 2, 3, 4, 5, 7], spent + 3])
        for _ in range(4):
            live.undo()
        self.assertEqual([live.present, live.marks, live.spent], [10, [1, 2, 3, 4, 5, 6, 7, 8, 9], spent])

    def test_undo_gives_the_cost_back(self):
        live = LiveLog(1)
        live.append(10 ** 29)
        live.undo()
        self.assertEqual(live.spent, 0)
        live.append(5)
        live.mark()
        self.assertEqual(live.spent, 4 + 1)
        live.undo()
        self.assertEqual(live.spent, 4)
        self.assertEqual(live.log(), [("append", 5)])

    def test_a_log_that_is_full(self):
        live = LiveLog(MOST)
        self.assertRaises(InvalidNumber, live.append, 1)
        live.cut(MOST - 3)
        for number in (4, 5, MOST):
            self.assertRaises(InvalidNumber, live.append, number)
        live.append(3)
        self.assertEqual(live.present, MOST)
        live.mark()
        self.assertEqual(live.shown(MOST), [])

    def test_returned_lists_are_new(self):
        live = LiveLog(7)
        live.mark()
        live.append(2)
        before = state_of(live)
        live.marks.append(8)
        live.marks.clear()
        live.log().append(("mark",))
        live.log().clear()
        live.shown(7).clear()
        self.assertEqual(state_of(live), before)
        self.assertEqual(live.shown(7), older_list(9, 7))
        self.assertIsNot(live.marks, live.marks)
        self.assertIsNot(live.log(), live.log())

    def test_properties_are_not_assigned(self):
        live, short = LiveLog(7), BudgetLog(7, 3)
        for name in ("present", "marks", "spent"):
            for one in (live, short):
                with self.assertRaises(AttributeError):
                    setattr(one, name, 8)
        with self.assertRaises(AttributeError):
            short.budget = 8
        self.assertFalse(hasattr(live, "budget"))
        self.assertIs(live.marks.__class__, list)
        self.assertIs(live.log().__class__, list)

    def test_logs_are_apart(self):
        first, second = LiveLog(3), LiveLog(3)
        first.append(2)
        first.mark()
        self.assertEqual(state_of(second), [3, [], 0, []])


class WrongCallsTest(unittest.TestCase):
    def check(self, live, kind, told, call, *arguments):
        """Expect an error of exactly one class, with its field, and a log that stays as it was."""
        before = state_of(live)
        with self.assertRaises(LogError, msg=repr(arguments)[:200]) as caught:
            call(*arguments)
        self.assertIs(caught.exception.__class__, kind, repr(arguments)[:200])
        self.assertEqual(vars(caught.exception), told)
        self.assertEqual(state_of(live), before)

    def logs(self):
        """List logs of both kinds with seven entries, a mark and calls to take back."""
        found = [LiveLog(1), BudgetLog(1, 100), BudgetLog(1, 6)]
        for live in found:
            live.append(4)
            live.mark()
            live.append(2)
        return found

    def test_sizes(self):
        for value in NO_SIZES:
            for make in (lambda size: LiveLog(size), lambda size: BudgetLog(size, 3),
                         lambda size: BudgetLog(size, -1), lambda size: BudgetLog(size, None)):
                with self.assertRaises(LogError) as caught:
                    make(value)
                self.assertIs(caught.exception.__class__, InvalidSize)
        self.assertEqual([LiveLog(1).present, LiveLog(MOST).present], [1, MOST])

    def test_budgets(self):
        for value in NO_BUDGETS:
            with self.assertRaises(LogError) as caught:
                BudgetLog(7, value)
            self.assertIs(caught.exception.__class__, InvalidBudget)
        for budget in (0, 1, MOST, MOST + 1, 10 ** 99, 10 ** 999):
            self.assertEqual(BudgetLog(7, budget).budget, budget)

    def test_append(self):
        for live in self.logs():
            for value in NO_INTEGERS + FAR_INTEGERS + [0, MOST - 6, MOST]:
                self.check(live, InvalidNumber, {}, live.append, value)
                self.check(live, InvalidNumber, {}, live.preview, ("append", value))

    def test_cut(self):
        for live in self.logs():
            for value in NO_SIZES + [8, 9]:
                self.check(live, InvalidSize, {}, live.cut, value)
                self.check(live, InvalidSize, {}, live.preview, ("cut", value))

    def test_shown(self):
        for live in self.logs():
            self.assertEqual(live.shown(5), older_list(7, 5))
            for value in NO_SIZES + [1, 2, 3, 4, 6, 7, 8, 9]:
                self.check(live, InvalidSize, {}, live.shown, value)
        live = LiveLog(1)
        live.mark()
        self.assertEqual(live.shown(1), [])
        self.check(live, InvalidSize, {}, live.shown, True)
        live.append(1)
        self.assertEqual(live.shown(1), [(1, 2)])
        self.check(live, InvalidSize, {}, live.shown, 2)
        self.check(live, InvalidSize, {}, live.shown, True)

    def test_undo(self):
        for live in (LiveLog(7), BudgetLog(7, 0)):
            self.check(live, Nothing, {}, live.undo)
            live.cut(7)
            live.undo()
            self.check(live, Nothing, {}, live.undo)

    def test_no_operations(self):
        for live in self.logs():
            for value in NO_OPERATIONS:
                self.check(live, InvalidOperation, {}, live.preview, value)
                self.check(live, InvalidOperation, {}, live.preview, ("mark",), value)
                # All operations are looked at before the first one is performed.
                self.check(live, InvalidOperation, {}, live.preview, ("append", 0), ("cut", 8), value, ("mark",))
                self.check(live, InvalidOperation, {}, live.preview, *[("mark",)] * 11, value)

    def test_errors_of_a_preview_come_in_sequence(self):
        for live in self.logs()[:2]:
            for ahead in ([], [("mark",)], [("append", 1), ("cut", 8)], [("cut", 7)] * 10):
                self.check(live, InvalidNumber, {}, live.preview, *ahead, ("append", 0), ("cut", 0))
                self.check(live, InvalidSize, {}, live.preview, *ahead, ("cut", 0), ("append", 0))
            self.check(live, InvalidSize, {}, live.preview, ("cut", 3), ("cut", 4))
            self.check(live, InvalidSize, {}, live.preview, ("append", 3), ("cut", 11))
            self.check(live, InvalidNumber, {}, live.preview, ("cut", 1), ("append", MOST))
            self.check(live, InvalidSize, {}, live.preview, ("cut", True))
            self.check(live, InvalidNumber, {}, live.preview, ("append", True))


class PreviewTest(unittest.TestCase):
    def test_a_preview_is_what_the_calls_spend(self):
        for seed in range(120):
            chance = random.Random(seed)
            size = chance.choice([1, 2, 7, 12, 2 ** 99 - 1, MOST - 5, 3 ** 40])
            live, twin, done = LiveLog(size), LiveLog(size), []
            for _ in range(chance.randint(0, 8)):
                done.append(some_operation(chance, live.present, MOST if size > 100 else 50))
                perform(live, done[-1])
                perform(twin, done[-1])
            more, before = [], state_of(live)
            for _ in range(12):
                more.append(some_operation(chance, twin.present, MOST if size > 100 else 50))
                perform(twin, more[-1])
                self.assertEqual(live.preview(*more), twin.spent)
                self.assertEqual(plain_run(size, done + more)[2], twin.spent)
            self.assertEqual(state_of(live), before)
            self.assertEqual(live.preview(), live.spent)

    def test_no_operation(self):
        for size in (1, 7, MOST):
            self.assertEqual(LiveLog(size).preview(), 0)
            self.assertEqual(BudgetLog(size, 0).preview(), 0)
        live = LiveLog(1)
        live.append(6)
        self.assertEqual(live.preview(), 4)

    def test_marks_of_a_preview(self):
        live = LiveLog(7)
        self.assertEqual(live.preview(("mark",)), 2)
        self.assertEqual(live.preview(*[("mark",)] * 12), 2)
        self.assertEqual(live.preview(("mark",), ("append", 4), ("mark",), ("cut", 7), ("mark",)), 2 + 4 + 2)
        self.assertEqual(live.preview(("mark",), ("cut", 6), ("append", 1), ("mark",)), 2 + 0 + 2)
        self.assertEqual(live.preview(("append", MOST - 7)), plain_run(7, [("append", MOST - 7)])[2])
        self.assertEqual(state_of(live), [7, [], 0, []])
        live.mark()
        self.assertEqual(live.preview(("mark",)), 2)
        self.assertEqual(live.preview(("cut", 6), ("append", 1), ("mark",)), 4)

    def test_log_is_a_preview(self):
        live = LiveLog(5)
        for operation in (("append", 6), ("mark",), ("cut", 9), ("append", 2), ("mark",)):
            perform(live, operation)
        self.assertEqual(LiveLog(5).preview(*live.log()), live.spent)


class EqualTest(unittest.TestCase):
    def test_equal_logs(self):
        live, twin = LiveLog(7), LiveLog(7)
        self.assertIs(live == twin, True)
        self.assertIs(live != twin, False)
        for operation in (("append", 2), ("mark",), ("append", 3), ("cut", 10)):
            perform(live, operation)
            self.assertIs(live == twin, False)
            perform(twin, operation)
            self.assertIs(live == twin, True)

    def test_the_calls_do_not_count(self):
        live, twin = LiveLog(8), LiveLog(7)
        twin.append(1)
        self.assertIs(live == twin, False)
        # One entry more costs three sums; these are back with undo.
        twin.cut(8)
        self.assertEqual([live.present, live.marks, twin.present, twin.marks], [8, [], 8, []])
        self.assertIs(live == twin, False)
        first, second = LiveLog(8), LiveLog(8)
        first.cut(8)
        self.assertIs(first == second, True)
        first.mark()
        first.undo()
        self.assertIs(first == second, True)
        first.mark()
        self.assertEqual(first.spent, second.spent)
        self.assertIs(first == second, False)
        second.mark()
        second.mark()
        self.assertIs(first == second, True)

    def test_other_sizes_marks_and_costs(self):
        first, second = LiveLog(4), LiveLog(5)
        self.assertIs(first == second, False)
        first.append(1)
        self.assertIs(first == second, True)
        first.append(1)
        second.append(1)
        first.cut(4)
        second.cut(4)
        self.assertIs(first == second, True)
        first.append(2)
        first.cut(4)
        self.assertEqual((first.present, first.marks), (second.present, second.marks))
        self.assertIs(first == second, False)

    def test_budget_logs(self):
        live, low, high = LiveLog(7), BudgetLog(7, 5), BudgetLog(7, 6)
        for first, second in ((live, low), (low, live), (low, high), (high, low)):
            self.assertIs(first == second, False)
            self.assertIs(first != second, True)
            self.assertIs(first.__eq__(second), False)
        for one in (live, low, high):
            self.assertIs(one == one, True)
        twin = BudgetLog(7, 5)
        self.assertIs(low == twin, True)
        self.assertIs(low != twin, False)
        twin.mark()
        self.assertIs(low == twin, False)
        low.mark()
        self.assertIs(low == twin, True)
        self.assertIs(BudgetLog(7, 0) == LiveLog(7), False)
        self.assertIs(isinstance(low, LiveLog), True)

    def test_other_values(self):
        for live in (LiveLog(1), LiveLog(7), BudgetLog(7, 3)):
            for value in NO_INTEGERS + FAR_INTEGERS + [7, (7, [], 0), [7, [], 0], "LiveLog(7)", (7, (), 0), LiveLog]:
                self.assertIs(live == value, False)
                self.assertIs(value == live, False)
                self.assertIs(live != value, True)


class BudgetTest(unittest.TestCase):
    def test_calls_just_reach_and_just_pass_a_budget(self):
        for seed in range(80):
            chance = random.Random(seed)
            size = chance.choice([1, 3, 7, 20, 2 ** 64 + 1, MOST // 3])
            live, done = LiveLog(size), []
            for _ in range(15):
                done.append(some_operation(chance, live.present, MOST if size > 100 else 60))
                perform(live, done[-1])
            costs = [plain_run(size, done[:many])[2] for many in range(len(done) + 1)]
            self.assertEqual(live.spent, costs[-1])
            just = BudgetLog(size, costs[-1])
            for operation in done:
                perform(just, operation)
            self.assertEqual([just.present, just.marks, just.spent, just.log()], state_of(live))
            for budget in {cost - 1 for cost in costs if cost > 0} | {0}:
                self.check_short(BudgetLog(size, budget), done, costs)

    def check_short(self, short, done, costs):
        """Perform all operations that the budget allows, and the first one that it does not."""
        for operation, cost in zip(done, costs[1:]):
            before = state_of(short)
            if cost > short.budget:
                for call in (lambda: perform(short, operation), lambda: short.preview(operation)):
                    with self.assertRaises(LogError) as caught:
                        call()
                    self.assertIs(caught.exception.__class__, OverBudget)
                    self.assertEqual(vars(caught.exception), {"count": cost})
                    self.assertEqual(state_of(short), before)
                return
            self.assertEqual(short.preview(operation), cost)
            self.assertEqual(state_of(short), before)
            self.assertIsNone(perform(short, operation))
            self.assertEqual(short.spent, cost)

    def test_no_budget_at_all(self):
        short = BudgetLog(8, 0)
        short.mark()
        short.append(1)
        self.assertEqual(state_of(short), [9, [8], 0, [("mark",), ("append", 1)], 0])
        for call, count in ((short.mark, 1), (lambda: short.append(1), 1), (lambda: short.append(7), 8)):
            with self.assertRaises(OverBudget) as caught:
                call()
            self.assertEqual(caught.exception.count, count)
        short.cut(8)
        short.mark()
        self.assertEqual(short.log(), [("mark",), ("append", 1), ("cut", 8), ("mark",)])

    def test_undo_makes_room(self):
        short = BudgetLog(1, 5)
        short.append(6)
        with self.assertRaises(OverBudget) as caught:
            short.mark()
        self.assertEqual(caught.exception.count, 6)
        short.undo()
        short.append(5)
        short.mark()
        self.assertEqual([short.spent, short.marks], [5, [6]])
        with self.assertRaises(OverBudget) as caught:
            short.append(2)
        self.assertEqual(caught.exception.count, 8)
        short.mark()
        short.cut(1)
        self.assertEqual([short.spent, short.marks], [5, []])

    def test_each_step_of_a_preview(self):
        short = BudgetLog(1, 6)
        before = state_of(short)
        self.assertEqual(short.preview(("append", 6), ("mark",)), 6)
        for operations, count in (
                ([("append", 8)], 7), ([("append", 6), ("mark",), ("append", 1)], 9), ([("append", 8), ("cut", 1)], 7),
                ([("append", 6), ("cut", 6), ("append", 2)], 7), ([("append", 8), ("append", 1)], 7),
                ([("mark",), ("cut", 1), ("append", 7)], 7), ([("append", 8), ("append", 0)], 7),
                ([("append", 8), ("cut", 0)], 7), ([("append", 8), ("cut", 99)], 7)):
            with self.assertRaises(LogError) as caught:
                short.preview(*operations)
            self.assertIs(caught.exception.__class__, OverBudget, operations)
            self.assertEqual(vars(caught.exception), {"count": count}, operations)
            self.assertEqual(state_of(short), before)

    def test_the_errors_of_live_logs_go_ahead(self):
        short = BudgetLog(7, 0)
        for value in NO_INTEGERS + FAR_INTEGERS + [0, MOST, MOST - 6]:
            self.assertRaises(InvalidNumber, short.append, value)
            self.assertRaises(InvalidNumber, short.preview, ("append", value), ("mark",))
        for value in NO_SIZES + [8]:
            self.assertRaises(InvalidSize, short.cut, value)
            self.assertRaises(InvalidSize, short.preview, ("cut", value), ("mark",))
            self.assertRaises(InvalidSize, short.shown, value)
        for value in NO_OPERATIONS:
            self.assertRaises(InvalidOperation, short.preview, ("mark",), value)
        self.assertRaises(OverBudget, short.preview, ("mark",), ("append", 0))
        self.assertRaises(OverBudget, short.preview, ("mark",), ("cut", 0))

    def test_shown(self):
        short = BudgetLog(7, 2)
        short.mark()
        short.cut(7)
        self.assertEqual(short.shown(7), [])
        self.assertRaises(OverBudget, short.append, 1)
        self.assertEqual(short.shown(7), [])


if __name__ == "__main__":
    unittest.main()
