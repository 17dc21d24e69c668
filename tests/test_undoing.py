import itertools
import unittest
from unittest import mock

import reference
import reference_scenes
from lines import Drawn
from odd_objects import NO_NAMES
from rowsinplace import undoing as module
from rowsinplace import verdicts
from rowsinplace.errors import BadPair, TooMany
from rowsinplace.handlers import Handler, pattern
from rowsinplace.plain import OPERATIONS
from rowsinplace.undoing import undoes
from rowsinplace.verdicts import Verdict

NEW = ("put", "add")
MOST = {"move": 4, "swap": 4, "send": 4, "put": 6}
KEYS = {op: [key for total in range(MOST.get(op, 7) + 1) for key in reference_scenes.keys(op, total)] for op in OPERATIONS}


def lines_of(handler):
    return handler.text.split("\n")[1:]


def has_row(op, lines):
    there = op not in NEW
    for line in lines:
        there = line != "drop x" and (there or "write x" in line)
    return there


def fits(op, lines, other, others):
    """Whether two handlers fit, as the document's words say it."""
    if "old last" in " ".join(others):
        return False
    if op in NEW:
        return has_row(op, lines) and other in ("take", "top", "bottom", "up", "down")
    if not has_row(op, lines):
        return other in NEW
    return other not in NEW and (other != "swap" or op == "swap")


def fault_in(op, key, lines, other, others):
    """The first spot whose row is not back behind two calls, and where it is; or None."""
    rows, arguments = reference_scenes.rows(op, key), reference_scenes.arguments(op, key)
    behind = reference.call(lines, rows, arguments)
    again = {"x": "x"}
    if other == "swap":
        again["y"] = arguments["y"]
    if other in ("put", "add", "move", "send"):
        again["to"] = rows["x"][0]
    if other in ("put", "move"):
        again["k"] = rows["x"][1]
    behind = reference.call(others, behind, again)
    for spot in reference_scenes.spots(op, key):
        name = reference_scenes.name(op, key, spot)
        if behind.get(name) != rows.get(name):
            return (spot, behind.get(name))
    return None


class Undone(unittest.TestCase):
    def assertUndoes(self, first, second):
        verdict = undoes(first, second)
        self.assertIs(type(verdict), Verdict)
        lines, others = lines_of(first), lines_of(second)
        found = None
        for key in KEYS[first.op]:
            fault = fault_in(first.op, key, lines, second.op, others)
            if fault is not None:
                found = (key, fault)
                break
        if found is None and not verdict.holds:
            self.assertGreater(verdict.scene.total, MOST.get(first.op, 7))
            self.assertEqual(fault_in(first.op, verdict.scene.key, lines, second.op, others), verdict.fault)
            return "far"
        told = None if verdict.holds else (verdict.scene.key, verdict.fault)
        self.assertEqual(told, found, (first.text, second.text))
        return "holds" if found is None else "near"


class Pairs(Undone):
    def test_which_operations_undo_which(self):
        holds = []
        for op, other in itertools.product(OPERATIONS, repeat=2):
            first, second = pattern(op), pattern(other)
            if not fits(op, lines_of(first), other, lines_of(second)):
                self.assertBadPair(first, second)
            elif self.assertUndoes(first, second) == "holds":
                holds.append((op, other))
        self.assertEqual(holds, [
            ("put", "take"), ("add", "take"), ("take", "put"), ("move", "move"), ("send", "move"), ("top", "move"),
            ("bottom", "move"), ("up", "move"), ("down", "move"), ("swap", "swap"),
        ])

    def assertBadPair(self, first, second):
        with self.assertRaises(BadPair) as caught:
            undoes(first=first, second=second)
        self.assertEqual((caught.exception.first, caught.exception.second), (first.op, second.op))

    def test_least_scenes_of_those_that_do_not(self):
        for op, other in (("up", "down"), ("down", "up"), ("top", "bottom"), ("bottom", "top"), ("take", "add"),
                          ("send", "send"), ("move", "send")):
            self.assertEqual(undoes(pattern(op), pattern(other)).scene.total, 2, (op, other))

    def test_each_pair_with_row_x_there_and_not_there(self):
        for op, other in itertools.product(OPERATIONS, repeat=2):
            for lines in ([], ["drop x"], ["write x to 1"], ["write x home 1"], ["drop x", "write x home 1"]):
                if reference.first_wrong_line(op, lines) is None:
                    first = Handler(op, *lines)
                    self.assertIs(first.has_row, has_row(op, lines))
                    for others in ([], ["write x home 1"], ["write x to 1"], ["write x home old last home"], ["write x to old last to"]):
                        if reference.first_wrong_line(other, others) is None:
                            second = Handler(other, *others)
                            if fits(op, lines, other, others):
                                self.assertUndoes(first, second)
                            else:
                                self.assertBadPair(first, second)

    def test_drawn_handlers(self):
        found = []
        for op, other, seed in itertools.product(OPERATIONS, OPERATIONS, range(3)):
            lines, others = Drawn(seed, 2).handler(op, 4, 3), Drawn(seed + 50, 3).handler(other, 4, 3)
            if fits(op, lines, other, others):
                found.append(self.assertUndoes(Handler(op, *lines), Handler(other, *others)))
            lines, others = Drawn(seed, 9).nearly(op, 3), Drawn(seed + 50, 3).nearly(other, 3)
            if fits(op, lines, other, others):
                found.append(self.assertUndoes(Handler(op, *lines), Handler(other, *others)))
        print({name: found.count(name) for name in set(found)})


if __name__ == "__main__":
    unittest.main()
