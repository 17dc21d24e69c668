import itertools
import random
import unittest

import reference
from lines import Drawn
from odd_objects import NESTED, NO_NAMES
from rowsinplace import handlers
from rowsinplace.boards import Board
from rowsinplace.errors import BadOperation, BadStep, BadText, TooMany
from rowsinplace.handlers import Handler, pattern
from rowsinplace.plain import OPERATIONS, apply, arguments_of
from rowsinplace.steps import Drop, Shift, Write
from test_plain import all_boards

NEW = ("put", "add")
TWO = ("move", "send", "swap")
NO_LINES = NO_NAMES + ["drop  x", "drop x\n", ["drop x"], ("drop x",), "shift x by 1"]


class Making(unittest.TestCase):
    def assertStep(self, index, op, *lines):
        with self.assertRaises(BadStep) as caught:
            Handler(op, *lines)
        self.assertEqual(caught.exception.index, index, lines)

    def test_the_names_stand_in_the_module(self):
        self.assertEqual(Handler.__module__, "rowsinplace.handlers")
        self.assertEqual(pattern.__module__, "rowsinplace.handlers")
        self.assertIs(vars(handlers)["Handler"], Handler)
        for name in ("__init__", "read", "MOST", "comparisons", "has_row", "__eq__", "__call__"):
            self.assertIn(name, vars(Handler))
        self.assertEqual(Handler.MOST, 6)

    def test_attributes(self):
        handler = Handler("move", "shift to by 1", "when apart do write x to k - 1", "drop x")
        self.assertEqual(handler.op, "move")
        self.assertEqual(handler.text, "handler move\nshift to by 1\nwhen apart do write x to k - 1\ndrop x")
        self.assertIs(type(handler.steps), tuple)
        self.assertEqual([type(step) for step in handler.steps], [Shift, Write, Drop])
        self.assertEqual([step.text for step in handler.steps], handler.text.split("\n")[1:])

    def test_a_handler_without_steps(self):
        for op in OPERATIONS:
            handler = Handler(op)
            self.assertEqual((handler.text, handler.steps, handler.comparisons), (f"handler {op}", (), 0))
            self.assertIs(handler.has_row, op not in NEW)

    def test_equal_just_by_text(self):
        first = Handler("top", "shift home by 1 where place < x")
        self.assertEqual(first, Handler("top", "shift home by 1 where place < x"))
        self.assertNotEqual(first, Handler("top", "shift home by 1 where place < old x"))
        self.assertNotEqual(first, Handler("up", "shift home by 1 where place < x"))
        self.assertNotEqual(first, Handler("top"))
        for thing in (first.text, None, True, 1, [first], (first,), first.steps):
            self.assertFalse(first == thing)
            self.assertTrue(first != thing)
        self.assertEqual(Handler.read(first.text), first)

    def test_bad_operation(self):
        for thing in NO_NAMES + [["put"], ("put",), "puts", "Put", "put\n"]:
            for make in (lambda: Handler(thing), lambda: Handler(thing, 1, *[None] * 7), lambda: pattern(thing)):
                with self.assertRaises(BadOperation) as caught:
                    make()
                self.assertEqual(caught.exception.op, thing)

    def test_too_many_lines(self):
        Handler("take", *["shift home by 1"] * 6)
        for lines in (["shift home by 1"] * 7, [None] * 7, ["drop x"] * 400):
            with self.assertRaises(TooMany) as caught:
                Handler("take", *lines)
            self.assertEqual(caught.exception.limit, 6)

    def test_any_object_as_a_line(self):
        for thing in NO_LINES + [NESTED, "when within do drop x"]:
            self.assertStep(0, "move", thing)
            self.assertStep(2, "move", "shift to by 1", "shift home by 1", thing, "drop x", thing)
            self.assertStep(5, "move", *["shift all by 1"] * 5, thing)


class Right(unittest.TestCase):
    """Lines are right for an operation or not [15]."""

    def accepts(self, op, *lines):
        try:
            Handler(op, *lines)
        except BadStep as error:
            self.assertEqual(error.index, len(lines) - 1, lines)
            return False
        return True

    def assertOnly(self, ops, line, *before):
        for op in OPERATIONS:
            self.assertIs(self.accepts(op, *before, line), op in ops, (op, line))

    def test_k(self):
        for line in ("shift all by 1 where place > k", "shift all by 1 where place > 1 and place < k - 1",
                     "when k > 2 do shift all by 1", "when 2 > k + 1 do shift all by 1"):
            self.assertOnly(("put", "move"), line)
        self.assertOnly(("put", "move"), "write x to k + 1")

    def test_y(self):
        for line in ("shift all by 1 except y", "shift all by 1 except x and y", "shift all by 1 where place = y",
                     "when old y = 1 do shift all by 1", "write y home 1", "write y to 1", "write x to y - 1",
                     "write x home old y", "when within do write y to y", "when 1 < y do shift home by 1"):
            self.assertOnly(("swap",), line)

    def test_home(self):
        rest = [op for op in OPERATIONS if op not in NEW]
        for line in ("shift home by 1", "write x home 1", "when count home < 2 do shift all by 1",
                     "shift all by 1 where place < old count home", "shift all by 1 where place = old last home + 1",
                     "when 1 < old last home do shift all by 1"):
            self.assertOnly(rest, line)
            if line.startswith("shift"):
                for op in NEW:
                    self.assertFalse(self.accepts(op, "write x to 1", line))

    def test_to(self):
        for line in ("shift to by 1", "write x to 1", "when count to < 2 do shift all by 1",
                     "shift all by 1 where place < old count to", "shift all by 1 where place = old last to + 1"):
            self.assertOnly(NEW + TWO, line)

    def test_within_and_apart(self):
        for word in ("within", "apart"):
            self.assertOnly(TWO, f"when {word} do shift all by 1")
            self.assertOnly(TWO, f"when {word} do write x to 1")

    def test_old_x(self):
        rest = [op for op in OPERATIONS if op not in NEW]
        for line in ("shift all by 1 where place > old x", "when old x < 3 do shift all by 1"):
            self.assertOnly(rest, line)
        for op in NEW:
            self.assertFalse(self.accepts(op, "write x to 1", "write x to old x"))

    def test_drop_x(self):
        rest = [op for op in OPERATIONS if op not in NEW + ("swap",)]
        self.assertOnly(rest, "drop x")
        for op in OPERATIONS:
            self.assertFalse(self.accepts(op, "when 1 < 2 do drop x"))
            self.assertFalse(self.accepts(op, "when x < 2 do drop x"))
        for op in NEW:
            self.assertFalse(self.accepts(op, "write x to 1", "drop x"))
        for op in ("move", "send"):
            self.assertFalse(self.accepts(op, "when within do drop x"))
            self.assertTrue(self.accepts(op, "drop x", "write x to 1", "drop x"))
            self.assertFalse(self.accepts(op, "drop x", "drop x"))

    def test_row_x_is_there_or_not(self):
        for op in OPERATIONS:
            there = op not in NEW
            lst = "to" if op in NEW else "home"
            self.assertIs(self.accepts(op, "shift all by 1 where place > x"), there)
            self.assertIs(self.accepts(op, "when x > 1 do shift all by 1"), there)
            self.assertIs(self.accepts(op, f"write x {lst} x"), there)
            self.assertIs(self.accepts(op, f"when 1 < 2 do write x {lst} 1"), there)
            self.assertTrue(self.accepts(op, f"write x {lst} 1", "shift all by 1 where place > x"))
            self.assertTrue(self.accepts(op, f"write x {lst} 1", f"when 1 < 2 do write x {lst} x"))
            self.assertTrue(self.accepts(op, "shift all by 1 except x"))
            if op not in NEW + ("swap",):
                self.assertFalse(self.accepts(op, "drop x", "shift all by 1 where place > x"))
                self.assertFalse(self.accepts(op, "drop x", "when x > 1 do shift all by 1"))
                self.assertFalse(self.accepts(op, "drop x", f"write x {lst} x"))
                self.assertFalse(self.accepts(op, "drop x", f"when 1 < 2 do write x {lst} 1"))
                self.assertTrue(self.accepts(op, "drop x", "shift all by 1 where place > old x except x"))
                self.assertTrue(self.accepts(op, "drop x", f"write x {lst} old x", f"write x {lst} x"))
                self.assertTrue(self.accepts(op, "drop x", f"write x {lst} 1", "drop x"))

    def test_held_against_the_reference(self):
        # Lines of one operation in another one, in any order.
        draw = random.Random(2)
        lines = {op: [line for seed in range(12) for line in Drawn(seed).handler(op)] for op in OPERATIONS}
        whole = sorted({line for some in lines.values() for line in some})
        wrong = 0
        for op in OPERATIONS:
            for _ in range(300):
                some = [draw.choice(whole if draw.random() < 0.3 else lines[op]) for _ in range(draw.randint(1, 6))]
                index = reference.first_wrong_line(op, some)
                try:
                    handler = Handler(op, *some)
                    self.assertIsNone(index, (op, some))
                    self.assertEqual(handler.comparisons, reference.comparisons(some))
                except BadStep as error:
                    self.assertEqual(error.index, index, (op, some))
                    wrong += 1
        self.assertGreater(wrong, 500)


class Properties(unittest.TestCase):
    def test_comparisons(self):
        for count, lines in (
            (0, []), (0, ["shift home by 1", "when within do write x to 1", "drop x"]),
            (1, ["shift home by 1 where place > x"]), (2, ["shift home by 1 where place = x"]),
            (3, ["shift home by 1 where place > 1 and place >= 1 and place < 1"]),
            (6, ["shift home by 1 where place = 1 and place = 2 and place = 3"]),
            (1, ["when k <= 2 do shift home by 1"]), (2, ["when k = 2 do write x to 1"]),
            (7, ["when k = 2 do shift home by 1 where place = 1 and place < 2", "when 1 = 1 do write x to 1"]),
        ):
            handler = Handler("move", *lines)
            self.assertEqual(handler.comparisons, count, lines)
            self.assertEqual(handler.comparisons, reference.comparisons(lines))

    def test_has_row(self):
        self.assertIs(Handler("put", "shift to by 1").has_row, False)
        self.assertIs(Handler("put", "shift to by 1", "write x to k").has_row, True)
        self.assertIs(Handler("add", "write x to 1", "shift to by 1").has_row, True)
        self.assertIs(Handler("take", "drop x").has_row, False)
        self.assertIs(Handler("take", "drop x", "shift home by 1").has_row, False)
        self.assertIs(Handler("take", "drop x", "write x home 1").has_row, True)
        self.assertIs(Handler("take", "drop x", "write x home 1", "drop x").has_row, False)
        self.assertIs(Handler("swap", "write y home 1").has_row, True)
        self.assertIs(Handler("take").has_row, True)


class Reading(unittest.TestCase):
    def assertFails(self, error, text):
        with self.assertRaises(type(error)) as caught:
            Handler.read(text)
        self.assertEqual(vars(caught.exception), vars(error), text)

    def test_texts(self):
        for op in OPERATIONS:
            self.assertEqual(Handler.read(f"handler {op}"), Handler(op))
            self.assertEqual(Handler.read(text=pattern(op).text), pattern(op))
            for seed in range(10):
                lines = Drawn(seed).handler(op)
                handler = Handler.read("\n".join([f"handler {op}"] + lines))
                self.assertEqual(handler, Handler(op, *lines))
                self.assertIs(type(handler), Handler)

    def test_no_string(self):
        for thing in NO_NAMES + [["handler put"], ("handler put",)]:
            if not isinstance(thing, str):
                self.assertFails(BadText(-1), thing)

    def test_the_first_line(self):
        for text in ("", "\n", " handler put", "handler put ", "handler  put", "handler", "handler ", "put", "Handler put",
                     "handler puts", "handler none", "handler put add", "\nhandler put", "handler handler put",
                     "handler\nput", "handler PUT", "x" * 5000, "write x to 1", "handler none" + "\ndrop x" * 9):
            self.assertFails(BadText(0), text)

    def test_too_many_lines(self):
        self.assertEqual(len(Handler.read("handler take" + "\nshift home by 1" * 6).steps), 6)
        for text in ("handler take" + "\nshift home by 1" * 7, "handler take" + "\n" * 7, "handler put" + "\nno" * 5000,
                     "handler take" + "\nshift home by 1" * 6 + "\n"):
            self.assertFails(TooMany(6), text)

    def test_steps_that_are_not_right(self):
        self.assertFails(BadStep(0), "handler take\n")
        self.assertFails(BadStep(0), "handler take\n\n")
        self.assertFails(BadStep(0), "handler take\n\ndrop x")
        self.assertFails(BadStep(1), "handler take\ndrop x\n")
        self.assertFails(BadStep(0), "handler put\ndrop x")
        self.assertFails(BadStep(2), "handler take\nshift home by 1\ndrop x\nwrite x home x\nno")
        self.assertFails(BadStep(5), "handler take" + "\nshift home by 1" * 5 + "\nshift to by 1")
        self.assertFails(BadStep(6 - 1), "handler take" + "\nshift home by 1" * 5 + "\n")


class Patterns(unittest.TestCase):
    def test_at_most_three_comparisons(self):
        for op in OPERATIONS:
            handler = pattern(op=op)
            self.assertIs(type(handler), Handler)
            self.assertEqual(handler.op, op)
            self.assertLessEqual(handler.comparisons, 3)

    def test_held_against_plain_lists(self):
        calls = 0
        for op, lists in itertools.product(OPERATIONS, all_boards()):
            handler = pattern(op)
            for arguments in allowed_calls(op, lists):
                board = Board.of(lists)
                self.assertIsNone(handler(board, **arguments))
                self.assertIs(board.is_dense, True, (op, lists, arguments))
                behind = apply(lists, op, **arguments)
                self.assertEqual({lst: board.rows_of(lst) for lst in behind}, behind, (op, lists, arguments))
                calls += 1
        self.assertGreater(calls, 800)


def allowed_calls(op, lists):
    """The arguments of all calls of an operation that are allowed on a plain board."""
    rows = [row for some in lists.values() for row in some]
    names = {"x": ["n"] if op in NEW else rows, "y": rows, "to": ["p", "q", "e", "new"], "k": range(1, 5)}
    have = arguments_of(op)
    for worths in itertools.product(*[names[name] for name in have]):
        arguments = dict(zip(have, worths))
        others = [row for row in lists.get(arguments.get("to"), []) if row != arguments["x"]]
        if "k" not in arguments or arguments["k"] <= len(others) + 1:
            yield arguments


if __name__ == "__main__":
    unittest.main()
