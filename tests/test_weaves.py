import inspect
import itertools
import random
import unittest
from unittest import mock

import reference
from lines import Drawn
from odd_objects import NO_NAMES
from rowsinplace import weaves as module
from rowsinplace.boards import Board
from rowsinplace.errors import BadCall, BadOrder, BadPair, TooMany
from rowsinplace.handlers import Handler, pattern
from rowsinplace.plain import OPERATIONS
from rowsinplace.weaves import Woven, orders, safe_orders, weave, woven

NEW = ("put", "add")
ASKED = [op for op in OPERATIONS if op != "swap"]


def played(rows, order, calls):
    """The rows behind the events of two calls, each (lines, arguments), straight from the document's words."""
    rows = {row: list(spot) for row, spot in rows.items()}
    begun, done = {}, {"a": 0, "b": 0}
    for letter in order:
        lines, arguments = calls[letter]
        if letter not in begun:
            begun[letter] = reference.Run(rows, **arguments)
        else:
            begun[letter].step(done[letter], lines[done[letter]])
            done[letter] += 1
    return {row: tuple(spot) for row, spot in rows.items()}


def numbers_of(count, ops, same):
    """All numbers of two calls on a list with that many rows, ascending."""
    rows = range(1, count + 1)
    ranges = []
    for op in ops:
        ranges.append([0] if op in NEW else rows)
        ranges.append(range(1, count + (2 if op == "put" else 1)) if op in ("put", "move") else [0])
    for x, k, u, l in itertools.product(*ranges):
        if (u == x) if same else (u != x or x == 0):
            yield (count, x, k, u, l)


def gap_in(numbers, ops, lines, order):
    """What keeps the list from being dense behind two woven calls, or None."""
    count, x, k, u, l = numbers
    rows = {("list", place): ["list", place] for place in range(1, count + 1)}
    calls = {}
    for index, (letter, op, row, place) in enumerate(zip("ab", ops, (x, u), (k, l))):
        key = ("new", index) if op in NEW else ("list", row)
        to = "list" if op in ("put", "add", "move", "send") else None
        calls[letter] = (lines[index], {"x": key, "to": to, "k": place if op in ("put", "move") else None})
    behind = played(rows, order, calls)
    spots = [("new", 0), ("new", 1)] + [("list", place) for place in range(1, count + 1)]
    ends = [(spot, behind[spot][1]) for spot in spots if spot in behind]
    lows = [("low", spot) for spot, place in ends if place < 1]
    highs = [("high", spot) for spot, place in ends if place > len(ends)]
    doubles = [("double", spot, other) for (spot, place), (other, also) in itertools.combinations(ends, 2) if place == also]
    return (lows + highs + doubles + [None])[0]


def told(answer):
    if answer.holds:
        return None
    numbers = answer.numbers
    return (tuple(numbers[name] for name in ("count", "x", "k", "u", "l")), answer.fault)


def lines_of(handler):
    return handler.text.split("\n")[1:]


class Values(unittest.TestCase):
    def test_the_names_stand_in_the_module(self):
        for name in ("orders", "woven", "weave", "safe_orders", "Woven"):
            self.assertEqual(vars(module)[name].__module__, "rowsinplace.weaves")
        for name in ("__init__", "holds", "__bool__"):
            self.assertIn(name, vars(Woven))

    def test_an_answer(self):
        answer = Woven(None, None)
        self.assertEqual((answer.numbers, answer.fault, answer.holds, bool(answer)), (None, None, True, True))
        numbers = {"count": 1, "x": 0, "k": 0, "u": 0, "l": 0}
        answer = Woven(numbers=numbers, fault=("low", ("list", 1)))
        self.assertEqual((answer.numbers, answer.fault, answer.holds, bool(answer)),
                         (numbers, ("low", ("list", 1)), False, False))


class Orders(unittest.TestCase):
    def test_all_orders_ascending(self):
        for many, others in itertools.product(range(5), repeat=2):
            first, second = [Handler("top", *["shift home by 1"] * number) for number in (many, others)]
            letters = "a" * (many + 1) + "b" * (others + 1)
            expected = sorted({"".join(way) for way in itertools.permutations(letters)}) if len(letters) < 9 else None
            found = list(orders(first=first, second=second))
            if expected is not None:
                self.assertEqual(found, expected)
            self.assertEqual(found, sorted(set(found)))
            self.assertTrue(all(order.count("a") == many + 1 and order.count("b") == others + 1 for order in found))

    def test_a_generator_whose_first_orders_come_at_once(self):
        six = Handler("top", *["shift home by 1"] * 6)
        found = orders(six, six)
        self.assertTrue(inspect.isgenerator(found))
        self.assertEqual([next(found) for _ in range(3)], ["aaaaaaabbbbbbb", "aaaaaababbbbbb", "aaaaaabbabbbbb"])
        self.assertEqual(len(list(found)), 3429)

    def test_handlers_without_steps(self):
        self.assertEqual(list(orders(Handler("top"), Handler("add"))), ["ab", "ba"])
        self.assertEqual(list(orders(Handler("top"), Handler("take", "drop x"))), ["abb", "bab", "bba"])


class Played(unittest.TestCase):
    def drawn_board(self, draw, is_dense):
        """Names of rows to spots, on two lists."""
        rows = {}
        for lst in ("to", "l"):
            many = draw.randint(1, 4)
            places = range(1, many + 1) if is_dense else [draw.randint(-3, 5) for _ in range(many)]
            rows.update({lst[0] + letter: (lst, place) for letter, place in zip("xyzw", places)})
        return rows

    def drawn_call(self, draw, op, rows):
        """Arguments of a call that is allowed."""
        x = draw.choice(("new", "x")) if op in NEW else draw.choice(list(rows))
        found = {"x": x}
        if op == "swap":
            found["y"] = draw.choice(list(rows))
        if op in ("put", "add", "move", "send"):
            found["to"] = draw.choice(("to", "l", "other"))
        if op in ("put", "move"):
            found["k"] = draw.randint(1, len([row for row in rows if rows[row][0] == found["to"] and row != x]) + 1)
        return found

    def test_held_against_the_events_one_by_one(self):
        draw = random.Random(5)
        shared = bad = 0
        for number in range(1500):
            ops = [draw.choice(OPERATIONS), draw.choice(OPERATIONS)]
            lines = [Drawn(number + 7 * index, 3).handler(op, 4, 6) for index, op in enumerate(ops)]
            rows = self.drawn_board(draw, number % 2 == 0)
            arguments = [self.drawn_call(draw, op, rows) for op in ops]
            first, second = [Handler(op, *some) for op, some in zip(ops, lines)]
            order = draw.choice(list(orders(first, second)))
            board = self.board_of(rows)
            common = {arguments[0].get("x"), arguments[0].get("y")} & {arguments[1].get("x"), arguments[1].get("y")} - {None}
            texts = first.text + second.text
            if common and ({"put", "add", "take"} & set(ops) or "drop x" in texts):
                bad += 1
                with self.assertRaises(BadPair) as caught:
                    woven(board, "no order", first, arguments[0], second, arguments[1])
                self.assertEqual((caught.exception.first, caught.exception.second), tuple(ops))
                self.assertEqual(self.rows_of(board), rows)
                continue
            shared += len(common) > 0
            kept = [dict(some) for some in arguments]
            self.assertIsNone(woven(board, order, first, arguments[0], second, arguments[1]))
            self.assertEqual(arguments, kept)
            calls = {letter: (some, {"x": None, **given}) for letter, some, given in zip("ab", lines, arguments)}
            self.assertEqual(self.rows_of(board), played(rows, order, calls))
        self.assertGreater(shared, 50)
        self.assertGreater(bad, 50)

    def board_of(self, rows):
        board = Board()
        for row, spot in rows.items():
            board[spot] = row
        return board

    def rows_of(self, board):
        return {row: board.at(row) for row in board}


class Searched(unittest.TestCase):
    def assertWeave(self, handlers, order, same, most=5):
        """The answer is what a search through short lists tells, as far as it goes."""
        first, second = handlers
        answer = weave(first, second, order, same=same)
        self.assertIs(type(answer), Woven)
        ops, lines = (first.op, second.op), (lines_of(first), lines_of(second))
        found = None
        for count in range(most + 1):
            for numbers in numbers_of(count, ops, same):
                found = found or (gap_in(numbers, ops, lines, order) and (numbers, gap_in(numbers, ops, lines, order)))
            if found:
                break
        if found is None and not answer.holds:
            numbers, fault = told(answer)
            self.assertGreater(numbers[0], most)
            self.assertEqual(gap_in(numbers, ops, lines, order), fault)
            return "far"
        self.assertEqual(told(answer), found, (first.text, second.text, order, same))
        return "holds" if found is None else "near"

    def drawn_handler(self, draw, op, seed, comparisons):
        while True:
            drawn = Drawn(seed, (2, 9)[seed % 2])
            # The patterns of up and down have too many comparisons.
            lines = drawn.handler(op, 4, comparisons) if op in ("up", "down") else drawn.nearly(op, comparisons)
            handler = Handler(op, *lines)
            if "old last" not in handler.text and handler.comparisons <= comparisons:
                return handler
            seed += 1000

    def test_patterns(self):
        for op, other in itertools.product(ASKED, repeat=2):
            first, second = pattern(op), pattern(other)
            if first.comparisons + second.comparisons <= 4:
                a, b = "a" * (len(first.steps) + 1), "b" * (len(second.steps) + 1)
                for same in (False, True):
                    if not same or not {op, other} & {"put", "add", "take"}:
                        for order in (a + b, b + a, "ab" + a[1:] + b[1:], a[1:] + "bba" + b[2:]):
                            self.assertWeave((first, second), order, same)

    def test_drawn_handlers(self):
        draw = random.Random(8)
        found = []
        for number in range(160):
            ops = [draw.choice(ASKED), draw.choice(ASKED)]
            first = self.drawn_handler(draw, ops[0], number, 2)
            second = self.drawn_handler(draw, ops[1], number + 500, 2)
            drops = "drop x" in first.text + second.text
            same = number % 2 == 0 and not drops and not {"put", "add", "take"} & set(ops)
            order = draw.choice(list(orders(first, second)))
            found.append(self.assertWeave((first, second), order, same, 4))
        print({name: found.count(name) for name in set(found)})


if __name__ == "__main__":
    unittest.main()
