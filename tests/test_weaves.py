import inspect
import itertools
import random
import unittest
from unittest import mock

import reference
from lines import Drawn
from odd_objects import NO_NAMES
from rowsinplace import weaves as module
from rowsinplace.boards import Board
from rowsinplace.errors import BadCall, BadOrder, BadPair, TooMany
from rowsinplace.handlers import Handler, pattern
from rowsinplace.plain import OPERATIONS
from rowsinplace.weaves import Woven, orders, safe_orders, weave, woven

NEW = ("put", "add")
ASKED = [op for op in OPERATIONS if op != "swap"]


def played(rows, order, calls):
    """The rows behind the events of two calls, each (lines, arguments), straight from the document's words."""
    rows = {row: list(spot) for row, spot in rows.items()}
    begun, done = {}, {"a": 0, "b": 0}
    for letter in order:
        lines, arguments = calls[letter]
        if letter not in begun:
            begun[letter] = reference.Run(rows, **arguments)
        else:
            begun[letter].step(done[letter], lines[done[letter]])
            done[letter] += 1
    return {row: tuple(spot) for row, spot in rows.items()}


def numbers_of(count, ops, same):
    """All numbers of two calls on a list with that many rows, ascending."""
    rows = range(1, count + 1)
    ranges = []
    for op in ops:
        ranges.append([0] if op in NEW else rows)
        ranges.append(range(1, count + (2 if op == "put" else 1)) if op in ("put", "move") else [0])
    for x, k, u, l in itertools.product(*ranges):
        if (u == x) if same else (u != x or x == 0):
            yield (count, x, k, u, l)


def gap_in(numbers, ops, lines, order):
    """What keeps the list from being dense behind two woven calls, or None."""
    count, x, k, u, l = numbers
    rows = {("list", place): ["list", place] for place in range(1, count + 1)}
    calls = {}
    for index, (letter, op, row, place) in enumerate(zip("ab", ops, (x, u), (k, l))):
        key = ("new", index) if op in NEW else ("list", row)
        to = "list" if op in ("put", "add", "move", "send") else None
        calls[letter] = (lines[index], {"x": key, "to": to, "k": place if op in ("put", "move") else None})
    behind = played(rows, order, calls)
    spots = [("new", 0), ("new", 1)] + [("list", place) for place in range(1, count + 1)]
    ends = [(spot, behind[spot][1]) for spot in spots if spot in behind]
    lows = [("low", spot) for spot, place in ends if place < 1]
    highs = [("high", spot) for spot, place in ends if place > len(ends)]
    doubles = [("double", spot, other) for (spot, place), (other, also) in itertools.combinations(ends, 2) if place == also]
    return (lows + highs + doubles + [None])[0]


def told(answer):
    if answer.holds:
        return None
    numbers = answer.numbers
    return (tuple(numbers[name] for name in ("count", "x", "k", "u", "l")), answer.fault)


def lines_of(handler):
    return handler.text.split("\n")[1:]


class Values(unittest.TestCase):
    def test_the_names_stand_in_the_module(self):
        for name in ("orders", "woven", "weave", "safe_orders", "Woven"):
            self.assertEqual(vars(module)[name].__module__, "rowsinplace.weaves")
        for name in ("__init__", "holds", "__bool__"):
            self.assertIn(name, vars(Woven))

    def test_an_answer(self):
        answer = Woven(None, None)
        self.assertEqual((answer.numbers, answer.fault, answer.holds, bool(answer)), (None, None, True, True))
        numbers = {"count": 1, "x": 0, "k": 0, "u": 0, "l": 0}
        answer = Woven(numbers=numbers, fault=("low", ("list", 1)))
        self.assertEqual((answer.numbers, answer.fault, answer.holds, bool(answer)),
                         (numbers, ("low", ("list", 1)), False, False))


class Orders(unittest.TestCase):
    def test_all_orders_ascending(self):
        for many, others in itertools.product(range(5), repeat=2):
            first, second = [Handler("top", *["shift home by 1"] * number) for number in (many, others)]
            letters = "a" * (many + 1) + "b" * (others + 1)
            expected = sorted({"".join(way) for way in itertools.permutations(letters)}) if len(letters) < 9 else None
            found = list(orders(first=first, second=second))
            if expected is not None:
                self.assertEqual(found, expected)
            self.assertEqual(found, sorted(set(found)))
            self.assertTrue(all(order.count("a") == many + 1 and order.count("b") == others + 1 for order in found))

    def test_a_generator_whose_first_orders_come_at_once(self):
        six = Handler("top", *["shift home by 1"] * 6)
        found = orders(six, six)
        self.assertTrue(inspect.isgenerator(found))
        self.assertEqual([next(found) for _ in range(3)], ["aaaaaaabbbbbbb", "aaaaaababbbbbb", "aaaaaabbabbbbb"])
        self.assertEqual(len(list(found)), 3429)

    def test_handlers_without_steps(self):
        self.assertEqual(list(orders(Handler("top"), Handler("add"))), ["ab", "ba"])
        self.assertEqual(list(orders(Handler("top"), Handler("take", "drop x"))), ["abb", "bab", "bba"])


class Played(unittest.TestCase):
    def drawn_board(self, draw, is_dense):
        """Names of rows to spots, on two lists."""
        rows = {}
        for lst in ("to", "l"):
            many = draw.randint(1, 4)
            places = range(1, many + 1) if is_dense else [draw.randint(-3, 5) for _ in range(many)]
            rows.update({lst[0] + letter: (lst, place) for letter, place in zip("xyzw", places)})
        return rows

    def drawn_call(self, draw, op, rows):
        """Arguments of a call that is allowed."""
        x = draw.choice(("new", "x")) if op in NEW else draw.choice(list(rows))
        found = {"x": x}
        if op == "swap":
            found["y"] = draw.choice(list(rows))
        if op in ("put", "add", "move", "send"):
            found["to"] = draw.choice(("to", "l", "other"))
        if op in ("put", "move"):
            found["k"] = draw.randint(1, len([row for row in rows if rows[row][0] == found["to"] and row != x]) + 1)
        return found

    def test_held_against_the_events_one_by_one(self):
        draw = random.Random(5)
        shared = bad = 0
        for number in range(1500):
            ops = [draw.choice(OPERATIONS), draw.choice(OPERATIONS)]
            lines = [Drawn(number + 7 * index, 3).handler(op, 4, 6) for index, op in enumerate(ops)]
            rows = self.drawn_board(draw, number % 2 == 0)
            arguments = [self.drawn_call(draw, op, rows) for op in ops]
            first, second = [Handler(op, *some) for op, some in zip(ops, lines)]
            order = draw.choice(list(orders(first, second)))
            board = self.board_of(rows)
            common = {arguments[0].get("x"), arguments[0].get("y")} & {arguments[1].get("x"), arguments[1].get("y")} - {None}
            texts = first.text + second.text
            if common and ({"put", "add", "take"} & set(ops) or "drop x" in texts):
                bad += 1
                with self.assertRaises(BadPair) as caught:
                    woven(board, "no order", first, arguments[0], second, arguments[1])
                self.assertEqual((caught.exception.first, caught.exception.second), tuple(ops))
                self.assertEqual(self.rows_of(board), rows)
                continue
            shared += len(common) > 0
            kept = [dict(some) for some in arguments]
            self.assertIsNone(woven(board, order, first, arguments[0], second, arguments[1]))
            self.assertEqual(arguments, kept)
            calls = {letter: (some, {"x": None, **given}) for letter, some, given in zip("ab", lines, arguments)}
            self.assertEqual(self.rows_of(board), played(rows, order, calls))
        self.assertGreater(shared, 50)
        self.assertGreater(bad, 50)

    def board_of(self, rows):
        board = Board()
        for row, spot in rows.items():
            board[spot] = row
        return board

    def rows_of(self, board):
        return {row: board.at(row) for row in board}


class Searched(unittest.TestCase):
    def assertWeave(self, handlers, order, same, most=5):
        """The answer is what a search through short lists tells, as far as it goes."""
        first, second = handlers
        answer = weave(first, second, order, same=same)
        self.assertIs(type(answer), Woven)
        ops, lines = (first.op, second.op), (lines_of(first), lines_of(second))
        found = None
        for count in range(most + 1):
            for numbers in numbers_of(count, ops, same):
                found = found or (gap_in(numbers, ops, lines, order) and (numbers, gap_in(numbers, ops, lines, order)))
            if found:
                break
        if found is None and not answer.holds:
            numbers, fault = told(answer)
            self.assertGreater(numbers[0], most)
            self.assertEqual(gap_in(numbers, ops, lines, order), fault)
            return "far"
        self.assertEqual(told(answer), found, (first.text, second.text, order, same))
        return "holds" if found is None else "near"

    def drawn_handler(self, draw, op, seed, comparisons):
        while True:
            drawn = Drawn(seed, (2, 9)[seed % 2])
            # The patterns of up and down have too many comparisons.
            lines = drawn.handler(op, 4, comparisons) if op in ("up", "down") else drawn.nearly(op, comparisons)
            handler = Handler(op, *lines)
            if "old last" not in handler.text and handler.comparisons <= comparisons:
                return handler
            seed += 1000

    def test_patterns(self):
        for op, other in itertools.product(ASKED, repeat=2):
            first, second = pattern(op), pattern(other)
            if first.comparisons + second.comparisons <= 4:
                a, b = "a" * (len(first.steps) + 1), "b" * (len(second.steps) + 1)
                for same in (False, True):
                    if not same or not {op, other} & {"put", "add", "take"}:
                        for order in (a + b, b + a, "ab" + a[1:] + b[1:], a[1:] + "bba" + b[2:]):
                            self.assertWeave((first, second), order, same)

    def test_drawn_handlers(self):
        draw = random.Random(8)
        found = []
        for number in range(240):
            ops = [draw.choice(ASKED), draw.choice(ASKED)]
            first = self.drawn_handler(draw, ops[0], number, 2)
            second = self.drawn_handler(draw, ops[1], number + 500, 2)
            drops = "drop x" in first.text + second.text
            same = number % 2 == 0 and not drops and not {"put", "add", "take"} & set(ops)
            order = draw.choice(list(orders(first, second)))
            found.append(self.assertWeave((first, second), order, same, 4))
        self.assertGreater(found.count("near"), 150)
        self.assertGreater(found.count("holds"), 25)

    def test_handlers_whose_faults_may_be_far(self):
        draw = random.Random(9)
        found = []
        for number in range(200):
            first, second = [self.far_handler(draw) for _ in range(2)]
            same = number % 2 == 0 and not {first.op, second.op} & {"put", "add", "take"}
            order = draw.choice(list(orders(first, second)))
            found.append(self.assertWeave((first, second), order, same, 4))
        self.assertGreater(found.count("far"), 30)
        self.assertGreater(found.count("holds"), 5)

    def far_handler(self, draw):
        """A handler that does nothing in short lists, or keeps lists dense."""
        op = draw.choice(("top", "bottom", "add", "move", "take"))
        lst = "to" if op == "add" else "home"
        lines = [f"shift {lst} by {draw.choice(('1', '-1'))} where place > {draw.randint(4, 9)}"]
        if draw.random() < 0.3:
            lines = [f"when count {lst} > {draw.randint(4, 9)} do shift {lst} by 1"]
        if op == "add":
            lines.append("write x to count to + 1")
        if op == "take":
            lines += ["drop x", "shift home by -1 where place > old x"]
        if draw.random() < 0.4:
            lines.insert(0, lines[0].replace("by -1", "by *").replace("by 1", "by -1").replace("by *", "by 1"))
        handler = Handler(op, *lines)
        return handler if handler.comparisons <= 2 else Handler(op, *lines[-1:])

    def test_the_search_through_short_lists_only_saves_time(self):
        draw = random.Random(10)
        for number in range(60):
            first = self.drawn_handler(draw, draw.choice(ASKED), number, 2)
            second = self.drawn_handler(draw, draw.choice(ASKED), number + 900, 2)
            for order in list(orders(first, second))[::5]:
                found = told(weave(first, second, order))
                with mock.patch.object(module, "FEW", -1):
                    self.assertEqual(told(weave(first, second, order)), found)


class Told(unittest.TestCase):
    """What is told of some handlers, to the letter."""

    def test_two_that_come_to_the_end(self):
        add = Handler("add", "write x to count to + 1")
        self.assertTrue(weave(first=add, second=add, order="abab", same=False))
        old = Handler("add", "write x to old count to + 1")
        answer = weave(old, old, "abab")
        self.assertEqual(answer.numbers, {"count": 0, "x": 0, "k": 0, "u": 0, "l": 0})
        self.assertEqual(answer.fault, ("double", ("new", 0), ("new", 1)))
        self.assertEqual((answer.holds, bool(answer)), (False, False))
        self.assertTrue(weave(old, old, "aabb").holds)

    def test_numbers_and_spots(self):
        put, take, top = pattern("put"), pattern("take"), pattern("top")
        self.assertIsNone(told(weave(put, put, "abaabb")))
        self.assertEqual(told(weave(put, put, "ababab")), ((0, 0, 1, 0, 1), ("double", ("new", 0), ("new", 1))))
        lines = ["write x to k"]
        self.assertEqual(told(weave(Handler("put", *lines), top, "aabbb")), ((1, 0, 1, 1, 0), ("double", ("new", 0), ("list", 1))))
        self.assertEqual(told(weave(top, Handler("put", *lines), "aaabb")), ((1, 1, 0, 0, 1), ("double", ("new", 1), ("list", 1))))
        self.assertEqual(told(weave(Handler("take", "drop x"), top, "aabbb")), ((3, 1, 0, 2, 0), ("high", ("list", 3))))
        self.assertEqual(told(weave(Handler("top", "write x home 0"), top, "aabbb", same=True)),
                         ((2, 2, 0, 2, 0), ("double", ("list", 1), ("list", 2))))
        self.assertIsNone(told(weave(Handler("top", "write x home 0", "write x home old x"), top, "aaabbb", same=True)))
        self.assertEqual(told(weave(Handler("top", "write x home 0"), top, "bbbaa", same=True)), ((1, 1, 0, 1, 0), ("low", ("list", 1))))
        self.assertEqual(told(weave(Handler("add"), Handler("add", "write x to 3"), "aabb"[1:])), ((0, 0, 0, 0, 0), ("high", ("new", 1))))
        self.assertTrue(weave(take, Handler("top"), "aaab").holds)

    def test_within_holds_and_apart_does_not(self):
        for guard, found in (("apart", None), ("within", ((1, 1, 0, 0, 0), ("low", ("list", 1))))):
            send = Handler("send", f"when {guard} do write x home 0")
            self.assertEqual(told(weave(send, Handler("add", "write x to count to + 1"), "aabb")), found)

    def test_far(self):
        down = Handler("top", "shift home by -1 where place > 9")
        self.assertEqual(told(weave(down, Handler("bottom"), "aab")), ((10, 1, 0, 2, 0), ("double", ("list", 9), ("list", 10))))
        self.assertEqual(told(weave(down, Handler("bottom"), "aab", same=True)), ((10, 1, 0, 1, 0), ("double", ("list", 9), ("list", 10))))
        back = Handler("bottom", "shift home by 1 where place > 8")
        self.assertEqual(told(weave(down, back, "aabb")), ((9, 1, 0, 2, 0), ("high", ("list", 9))))

    def test_a_new_dict_each_time(self):
        old = Handler("add", "write x to old count to + 1")
        weave(old, old, "abab").numbers.clear()
        self.assertEqual(sorted(weave(old, old, "abab").numbers), ["count", "k", "l", "u", "x"])


class Safe(unittest.TestCase):
    def test_just_the_orders_for_which_weave_holds(self):
        draw = random.Random(11)
        lengths = []
        for number in range(60):
            ops = [draw.choice(ASKED), draw.choice(ASKED)]
            lines = []
            for op in ops:
                some = [line for line in pattern(op).text.split("\n")[1:] if "=" not in line or ">=" in line][:2]
                lines.append(some if draw.random() < 0.7 else Drawn(number, 2).handler(op, 2, 1))
            first, second = [Handler(op, *some) for op, some in zip(ops, lines)]
            if first.comparisons + second.comparisons > 3 or "old last" in first.text + second.text:
                continue
            for same in (False, True):
                if same and ({"put", "add", "take"} & set(ops) or "drop" in first.text + second.text):
                    continue
                found = safe_orders(first=first, second=second, same=same)
                self.assertIs(type(found), list)
                self.assertEqual(found, [order for order in orders(first, second) if weave(first, second, order, same=same)])
                lengths.append(len(found))
                found.append("ab")
                self.assertEqual(safe_orders(first, second, same=same), found[:-1])
        self.assertGreater(len([1 for length in lengths if 0 < length < 10]), 5)

    def test_to_the_letter(self):
        add, old = Handler("add", "write x to count to + 1"), Handler("add", "write x to old count to + 1")
        self.assertEqual(safe_orders(add, add), ["aabb", "abab", "abba", "baab", "baba", "bbaa"])
        self.assertEqual(safe_orders(old, old), ["aabb", "bbaa"])
        # The call b goes wrong if it has begun when the row of a comes, and its own row comes then.
        self.assertEqual(safe_orders(add, old), ["aabb", "abba", "baba", "bbaa"])


class Wrong(unittest.TestCase):
    def assertBad(self, error, attributes, call):
        with self.assertRaises(error) as caught:
            call()
        self.assertEqual(vars(caught.exception), attributes)

    def test_pairs_that_cannot_be_asked_about(self):
        last = {"top": Handler("top", "write x home old last home"), "add": Handler("add", "write x to old last to + 1"),
                "send": Handler("send", "when old last to > 1 do write x to 1")}
        many = Handler("top", "shift home by 1 where place = 1 and place = 2 and place = 3", *["shift home by 1"] * 3)
        for op in ASKED:
            for first, second in ((pattern("swap"), pattern(op)), (pattern(op), pattern("swap")), (pattern("swap"), many), (many, pattern("swap"))):
                for same in (False, True):
                    self.assertBadPair(first, second, same)
            for handler in last.values():
                self.assertBadPair(pattern(op), handler, False)
                self.assertBadPair(handler, many, False)
        for op in ("put", "add", "take"):
            for other in [pattern(name) for name in ASKED] + [many]:
                self.assertBadPair(pattern(op), other, True)
                self.assertBadPair(other, pattern(op), True)
        dropping = Handler("move", "drop x", "write x to k")
        for other in (pattern("top"), many, dropping):
            self.assertBadPair(dropping, other, True)
            self.assertBadPair(other, dropping, True)
        self.assertIs(type(weave(dropping, pattern("top"), "aaabbb")), Woven)

    def assertBadPair(self, first, second, same):
        expected = {"first": first.op, "second": second.op}
        self.assertBad(BadPair, expected, lambda: weave(first, second, None, same=same))
        self.assertBad(BadPair, expected, lambda: safe_orders(first, second, same=same))

    def test_too_many_comparisons_and_steps(self):
        one, two = Handler("top", "shift home by 1 where place > 1"), Handler("top", "shift home by 1 where place = 1")
        three = Handler("top", "shift home by 1 where place = 1 and place > 1")
        steps = Handler("top", *["shift home by 1"] * 3)
        self.assertIs(type(weave(two, two, "aabb")), Woven)
        self.assertIs(type(weave(one, three, "aabb")), Woven)
        for first, second in ((two, three), (three, two)):
            self.assertBad(TooMany, {"limit": 4}, lambda: weave(first, second, None))
            self.assertBad(TooMany, {"limit": 3}, lambda: safe_orders(first, second))
        self.assertBad(TooMany, {"limit": 3}, lambda: safe_orders(two, two))
        self.assertBad(TooMany, {"limit": 3}, lambda: safe_orders(steps, Handler("top", *three.text.split("\n")[1:], *["shift home by 1 where place > 1"] * 2)))
        self.assertIs(type(safe_orders(one, two)), list)
        for first, second in ((steps, one), (one, steps), (steps, steps)):
            self.assertBad(TooMany, {"limit": 2}, lambda: safe_orders(first, second))
            self.assertBad(BadOrder, {"order": "ab"}, lambda: weave(first, second, "ab"))

    def test_bad_orders(self):
        top, add = pattern("top"), pattern("add")
        wrong = NO_NAMES + ["ab", "aabb", "aaabbb", "bbbaa", "aaab", "aaabbc", "AAABB", ["a", "a", "a", "b", "b"], ("aaabb",), "aaabb\n", " aaabb", "aabbb"]
        for thing in wrong:
            self.assertBad(BadOrder, {"order": thing}, lambda: weave(top, add, thing))
            board = Board.of({"home": ["x", "a"]})
            self.assertBad(BadOrder, {"order": thing}, lambda: woven(board, thing, top, {"x": "x"}, add, {"x": "n", "to": "home"}))
            self.assertEqual(board.rows_of("home"), ["x", "a"])
        self.assertIs(type(weave(top, add, "aaabb")), Woven)

    def test_errors_of_woven_in_their_order(self):
        top, put, take = pattern("top"), pattern("put"), pattern("take")
        lists = {"home": ["x", "a", "b"], "to": ["c"]}

        def ask(first, arguments, second, others, order=None):
            board = Board.of(lists)
            kept = (dict(arguments), dict(others))
            try:
                return woven(board=board, order=order, first=first, arguments=arguments, second=second, other_arguments=others)
            finally:
                self.assertEqual((arguments, others), kept)
                self.assertEqual({lst: board.rows_of(lst) for lst in board.list_names()}, lists)

        for thing in NO_NAMES:
            if thing is not None:
                self.assertBad(BadCall, {"argument": "k"}, lambda: ask(top, {"x": "a", "k": thing}, top, {"x": "n"}))
                self.assertBad(BadCall, {"argument": "y"}, lambda: ask(top, {"x": "a", "y": thing}, top, {}))
                self.assertBad(BadCall, {"argument": "to"}, lambda: ask(top, {"x": "a"}, top, {"x": "b", "to": thing}))
            self.assertBad(BadCall, {"argument": "x"}, lambda: ask(top, {"x": thing}, top, {"x": thing}))
            self.assertBad(BadCall, {"argument": "x"}, lambda: ask(top, {"x": "a"}, top, {"x": thing}))
            self.assertBad(BadCall, {"argument": "to"}, lambda: ask(put, {"x": "n", "to": thing, "k": 1}, top, {"x": "b"}))
            if thing != 1 or thing is True:
                self.assertBad(BadCall, {"argument": "k"}, lambda: ask(put, {"x": "n", "to": "to", "k": thing}, top, {"x": "b"}))
        self.assertBad(BadCall, {"argument": "x"}, lambda: ask(put, {}, put, {}))
        self.assertBad(BadCall, {"argument": "to"}, lambda: ask(put, {"x": "n"}, put, {}))
        # Both calls must be allowed before the first event: row n is no row then, and k goes by the rows then.
        self.assertBad(BadCall, {"argument": "x"}, lambda: ask(put, {"x": "n", "to": "to", "k": 1}, top, {"x": "n"}))
        self.assertBad(BadCall, {"argument": "k"}, lambda: ask(put, {"x": "n", "to": "to", "k": 1}, put, {"x": "m", "to": "to", "k": 3}))
        for first, arguments, second, others in (
            (put, {"x": "n", "to": "to", "k": 1}, put, {"x": "n", "to": "home", "k": 1}), (take, {"x": "a"}, top, {"x": "a"}),
            (top, {"x": "a"}, take, {"x": "a"}), (pattern("swap"), {"x": "a", "y": "b"}, take, {"x": "b"}),
            (Handler("top", "drop x"), {"x": "a"}, pattern("swap"), {"x": "b", "y": "a"}),
        ):
            self.assertBad(BadPair, {"first": first.op, "second": second.op}, lambda: ask(first, arguments, second, others))

    def test_two_calls_with_one_row(self):
        board = Board.of({"home": ["x", "a", "b"], "to": ["c"]})
        top, bottom = Handler("top", "write x home 0"), Handler("bottom", "write x home x + 5")
        self.assertIsNone(woven(board, "abab", top, {"x": "a"}, bottom, {"x": "a", "y": None, "k": None}))
        self.assertEqual(board.at("a"), ("home", 5))
        old = Handler("bottom", "write x home old x + 5")
        woven(board, "baab", top, {"x": "a"}, old, {"x": "a"})
        self.assertEqual(board.at("a"), ("home", 10))

    def test_names_of_lists_are_no_names_of_rows(self):
        board = Board.of({"a": ["a", "b"], "b": ["c"]})
        self.assertIsNone(woven(board, "abbab", pattern("add"), {"x": "n", "to": "a"}, Handler("take", "drop x", "shift home by -1"), {"x": "a"}))
        self.assertEqual((board.places_of("a"), board.rows_of("a")), ([1, 1], ["b", "n"]))
        woven(board, "babaa", Handler("take", "drop x", "shift home by 1"), {"x": "n"}, pattern("add"), {"x": "m", "to": "n"})
        self.assertEqual((board.rows_of("a"), board.rows_of("n")), (["b"], ["m"]))

    def test_the_example_of_promise_3(self):
        """For each question there is a handler for which it holds, and one for which it does not."""
        add, old = Handler("add", "write x to count to + 1"), Handler("add", "write x to old count to + 1")
        self.assertEqual([bool(weave(add, add, "abab")), bool(weave(old, old, "abab"))], [True, False])
        self.assertEqual(["abab" in safe_orders(add, add), "abab" in safe_orders(old, old)], [True, False])


if __name__ == "__main__":
    unittest.main()
