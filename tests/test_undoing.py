import itertools
import unittest
from unittest import mock

import reference
import reference_scenes
from lines import Drawn
from rowsinplace import undoing as module
from rowsinplace import verdicts
from rowsinplace.errors import BadPair, TooMany
from rowsinplace.handlers import Handler, pattern
from rowsinplace.plain import OPERATIONS
from rowsinplace.undoing import undoes
from rowsinplace.verdicts import Verdict

NEW = ("put", "add")
MOST = {"move": 4, "swap": 4, "send": 4, "put": 6}
KEYS = {op: [key for total in range(MOST.get(op, 7) + 1) for key in reference_scenes.keys(op, total)] for op in OPERATIONS}


# The operations that undo each other.
BACK = [
    ("put", "take"), ("add", "take"), ("take", "put"), ("move", "move"), ("send", "move"), ("top", "move"),
    ("bottom", "move"), ("up", "move"), ("down", "move"), ("swap", "swap"),
]


def told(verdict):
    return None if verdict.holds else (verdict.scene.key, verdict.fault)


def lines_of(handler):
    return handler.text.split("\n")[1:]


def has_row(op, lines):
    there = op not in NEW
    for line in lines:
        there = line != "drop x" and (there or "write x" in line)
    return there


def fits(op, lines, other, others):
    """Whether two handlers fit, as the document's words say it."""
    if "old last" in " ".join(others):
        return False
    if op in NEW:
        return has_row(op, lines) and other in ("take", "top", "bottom", "up", "down")
    if not has_row(op, lines):
        return other in NEW
    return other not in NEW and (other != "swap" or op == "swap")


def fault_in(op, key, lines, other, others):
    """The first spot whose row is not back behind two calls, and where it is; or None."""
    rows, arguments = reference_scenes.rows(op, key), reference_scenes.arguments(op, key)
    behind = reference.call(lines, rows, arguments)
    again = {"x": "x"}
    if other == "swap":
        again["y"] = arguments["y"]
    if other in ("put", "add", "move", "send"):
        again["to"] = rows["x"][0]
    if other in ("put", "move"):
        again["k"] = rows["x"][1]
    behind = reference.call(others, behind, again)
    for spot in reference_scenes.spots(op, key):
        name = reference_scenes.name(op, key, spot)
        if behind.get(name) != rows.get(name):
            return (spot, behind.get(name))
    return None


class Undone(unittest.TestCase):
    def assertUndoes(self, first, second):
        verdict = undoes(first, second)
        self.assertIs(type(verdict), Verdict)
        lines, others = lines_of(first), lines_of(second)
        found = None
        for key in KEYS[first.op]:
            fault = fault_in(first.op, key, lines, second.op, others)
            if fault is not None:
                found = (key, fault)
                break
        if found is None and not verdict.holds:
            self.assertGreater(verdict.scene.total, MOST.get(first.op, 7))
            self.assertEqual(fault_in(first.op, verdict.scene.key, lines, second.op, others), verdict.fault)
            return "far"
        told = None if verdict.holds else (verdict.scene.key, verdict.fault)
        self.assertEqual(told, found, (first.text, second.text))
        return "holds" if found is None else "near"


class Pairs(Undone):
    def test_which_operations_undo_which(self):
        holds = []
        for op, other in itertools.product(OPERATIONS, repeat=2):
            first, second = pattern(op), pattern(other)
            if not fits(op, lines_of(first), other, lines_of(second)):
                self.assertBadPair(first, second)
            elif self.assertUndoes(first, second) == "holds":
                holds.append((op, other))
        self.assertEqual(holds, BACK)

    def assertBadPair(self, first, second):
        with self.assertRaises(BadPair) as caught:
            undoes(first=first, second=second)
        self.assertEqual((caught.exception.first, caught.exception.second), (first.op, second.op))

    def test_least_scenes_of_those_that_do_not(self):
        for op, other in (("up", "down"), ("down", "up"), ("top", "bottom"), ("bottom", "top"), ("take", "add"),
                          ("send", "send"), ("move", "send")):
            self.assertEqual(undoes(pattern(op), pattern(other)).scene.total, 2, (op, other))

    def test_each_pair_with_row_x_there_and_not_there(self):
        for op, other in itertools.product(OPERATIONS, repeat=2):
            for lines in ([], ["drop x"], ["write x to 1"], ["write x home 1"], ["drop x", "write x home 1"]):
                if reference.first_wrong_line(op, lines) is None:
                    first = Handler(op, *lines)
                    self.assertIs(first.has_row, has_row(op, lines))
                    for others in ([], ["write x home 1"], ["write x to 1"], ["write x home old last home"], ["write x to old last to"]):
                        if reference.first_wrong_line(other, others) is None:
                            second = Handler(other, *others)
                            if fits(op, lines, other, others):
                                self.assertUndoes(first, second)
                            else:
                                self.assertBadPair(first, second)

    def test_drawn_handlers(self):
        found = []
        for op, other, seed in itertools.product(OPERATIONS, OPERATIONS, range(3)):
            lines, others = Drawn(seed, 2).handler(op, 4, 3), Drawn(seed + 50, 3).handler(other, 4, 3)
            if fits(op, lines, other, others):
                found.append(self.assertUndoes(Handler(op, *lines), Handler(other, *others)))
            lines, others = Drawn(seed, 9).nearly(op, 3), Drawn(seed + 50, 3).nearly(other, 3)
            if fits(op, lines, other, others):
                found.append(self.assertUndoes(Handler(op, *lines), Handler(other, *others)))
        self.assertGreater(found.count("near"), 150)

    def test_right_handlers_and_changed_ones(self):
        found = []
        for (op, other), seed in itertools.product(BACK, range(14)):
            lines = Drawn(seed, 9).nearly(op, 3)
            if fits(op, lines, other, lines_of(pattern(other))):
                found.append(self.assertUndoes(Handler(op, *lines), pattern(other)))
            lines = Drawn(seed + 300, (9, 4)[seed % 2]).nearly(other, 3)
            if fits(op, lines_of(pattern(op)), other, lines):
                found.append(self.assertUndoes(pattern(op), Handler(other, *lines)))
        self.assertGreater(found.count("near"), 60)
        self.assertGreater(found.count("holds"), 80)
        self.assertGreater(found.count("far"), 3)

    def test_the_search_through_few_scenes_only_saves_time(self):
        for (op, other), seed in itertools.product(BACK, range(20, 26)):
            lines, others = Drawn(seed, 9).nearly(op, 3), Drawn(seed + 300, 2).nearly(other, 3)
            if fits(op, lines, other, others):
                first, second = Handler(op, *lines), Handler(other, *others)
                found = told(undoes(first, second))
                with mock.patch.object(verdicts, "FEW", -1):
                    self.assertEqual(told(undoes(first, second)), found)


class Told(Undone):
    """What is told of some handlers, to the letter."""

    def test_a_new_row_is_back_if_it_is_off_the_board(self):
        self.assertEqual(told(undoes(pattern("add"), Handler("take"))), ((0, 0, 0, 0, 0, 0, 0), (("new", 0), ("to", 1))))
        self.assertIsNone(told(undoes(pattern("add"), Handler("take", "drop x"))))
        self.assertEqual(told(undoes(pattern("put"), Handler("take", "drop x"))), ((1, 0, 0, 1, 0, 0, 1), (("to", 1), ("to", 2))))

    def test_rows_that_are_dropped_and_written_anew(self):
        self.assertIsNone(told(undoes(Handler("take", "drop x"), Handler("put", "write x to k"))))
        self.assertIsNone(told(undoes(Handler("take", "drop x", "write x home 1"), Handler("move", "drop x", "write x to k"))))
        self.assertEqual(told(undoes(Handler("take", "drop x"), Handler("put"))), ((1, 0, 1, 0, 1, 0, 0), (("home", 1), None)))
        self.assertEqual(told(undoes(Handler("top"), Handler("take", "drop x"))), ((1, 0, 1, 0, 1, 0, 0), (("home", 1), None)))
        self.assertEqual(told(undoes(Handler("take", "drop x"), Handler("add", "write x to count to + 1"))),
                         ((2, 0, 2, 0, 1, 0, 0), (("home", 1), ("home", 2))))

    def test_lists_of_the_second_call(self):
        # Its list home is the one that x has then, and its list to is the one that x had.
        there = Handler("move", "write x to k", "when apart do shift to by 1 where place >= k except x")
        back = Handler("move", "when apart do shift home by -1 where place > x", "write x to k")
        self.assertIsNone(told(undoes(there, back)))
        swap = Handler("swap", "write x to old y", "write y home old x")
        self.assertIsNone(told(undoes(swap, Handler("swap", "write y home x", "write x to old y"))))
        self.assertEqual(told(undoes(swap, Handler("move", "write x to k")))[0], (2, 1, 1, 1, 1, 1, 0))

    def test_the_second_call_is_carried_out_whether_or_not_it_is_allowed(self):
        # Behind the first call there are too few rows for the place k.
        there, back = Handler("send", "when apart do write x to 1"), Handler("move", "write x to k")
        self.assertIsNone(told(undoes(there, back)))

    def test_far(self):
        there = Handler("top", "shift home by 1 where place < x and place < 9", "write x home 1")
        self.assertEqual(told(undoes(there, pattern("move"))), ((10, 0, 10, 0, 10, 0, 0), (("home", 9), ("home", 8))))
        back = Handler("put", "shift to by 1 where place >= k and place < k + 9", "write x to k")
        self.assertEqual(told(undoes(pattern("take"), back)), ((11, 0, 11, 0, 1, 0, 0), (("home", 11), ("home", 10))))
        back = Handler("move", "shift home by -1 where place > x", "shift to by 1 where place >= k except x", "when x < 9 do write x to k")
        self.assertEqual(told(undoes(pattern("bottom"), back)), ((9, 0, 9, 0, 1, 0, 0), (("home", 1), ("home", 9))))


class Wrong(unittest.TestCase):
    def test_the_function_stands_in_the_module(self):
        self.assertEqual(module.undoes.__module__, "rowsinplace.undoing")

    def test_too_many_comparisons_of_both_together_behind_bad_pair(self):
        three = ["shift home by 1 where place > 1 and place > 2 and place > 3"]
        six = ["shift home by 1 where place = 1 and place = 2 and place = 3"]
        self.assertIs(type(undoes(Handler("top", *three), Handler("move", *three))), Verdict)
        self.assertIs(type(undoes(Handler("top", *six), Handler("move"))), Verdict)
        for first, second in ((Handler("top", *three, *three), Handler("move", *three)), (Handler("top", *six), Handler("move", *three)),
                              (Handler("top"), Handler("move", *six, *three)), (Handler("top", *six), Handler("take", *six))):
            with self.assertRaises(TooMany) as caught:
                undoes(first, second)
            self.assertEqual(caught.exception.limit, 6)
        for first, second in ((Handler("top", *six), Handler("swap", *six)), (Handler("top", *six), Handler("put", "write x to 1")),
                              (Handler("top", *six), Handler("bottom", *six, "write x home old last home"))):
            with self.assertRaises(BadPair) as caught:
                undoes(first, second)
            self.assertEqual((caught.exception.first, caught.exception.second), (first.op, second.op))


if __name__ == "__main__":
    unittest.main()
