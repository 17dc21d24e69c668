import random
import unittest

import reference
from lines import Drawn
from odd_objects import BIG, NESTED, NO_INTEGERS, NO_NAMES
from rowsinplace import desk as module
from rowsinplace.boards import Board
from rowsinplace.desk import Desk
from rowsinplace.errors import BadCall, BadName, BadVisit, CallFailed, Clash, NoHandler
from rowsinplace.handlers import Handler, pattern
from rowsinplace.plain import OPERATIONS

LISTS = {"todo": ["a", "b", "c"], "done": ["d"]}


def rows_of(board):
    return {row: board.at(row) for row in board}


def desk_with_patterns(board, visit=None):
    desk = Desk(board, visit)
    for op in OPERATIONS:
        desk[op] = pattern(op)
    return desk


class Values(unittest.TestCase):
    def test_the_class_stands_in_the_module(self):
        self.assertEqual(Desk.__module__, "rowsinplace.desk")
        self.assertIs(module.Desk, Desk)
        for name in ("__init__", "__setitem__", "__getitem__", "__contains__", "__len__", "__iter__", "done", "call", "run", "renumber"):
            self.assertIn(name, vars(Desk))

    def test_the_board_itself_is_kept(self):
        board = Board.of(LISTS)
        for visit in (None, "up", "down"):
            desk = Desk(board=board, visit=visit)
            self.assertIs(desk.board, board)
            self.assertEqual(desk.visit, visit)
            self.assertEqual(desk.done, 0)
        self.assertIsNone(Desk(board).visit)

    def test_bad_visits(self):
        for thing in [thing for thing in NO_NAMES if thing is not None] + ["any", "Up", ["up"], ("down",), "up "]:
            with self.assertRaises(BadVisit) as caught:
                Desk(Board(), thing)
            self.assertEqual(caught.exception.visit, thing)


class Handlers(unittest.TestCase):
    def test_set_set_again_asked_for_and_iterated_over(self):
        desk = Desk(Board())
        self.assertEqual((len(desk), list(desk), "put" in desk), (0, [], False))
        first, second = pattern("put"), pattern("add")
        desk["put"] = first
        desk["new"] = second
        self.assertIs(desk["put"], first)
        self.assertEqual((len(desk), sorted(desk)), (2, ["new", "put"]))
        desk["put"] = second
        self.assertIs(desk["put"], second)
        self.assertEqual((len(desk), sorted(desk), "put" in desk, "new" in desk), (2, ["new", "put"], True, True))

    def test_it_may_be_changed_while_it_is_iterated_over(self):
        desk = desk_with_patterns(Board())
        for name in desk:
            desk["x" + name] = desk[name]
        self.assertEqual(len(desk), 20)

    def test_any_objects(self):
        desk = desk_with_patterns(Board())
        for thing in NO_NAMES + ["Put", "puts", ["put"], ("put",)]:
            self.assertIs(thing in desk, False)
            with self.assertRaises(NoHandler) as caught:
                desk[thing]
            self.assertEqual(caught.exception.name, thing)
        for thing in NO_NAMES:
            with self.assertRaises(BadName) as caught:
                desk[thing] = pattern("put")
            self.assertEqual(caught.exception.name, thing)
        self.assertEqual(len(desk), 10)


class Calls(unittest.TestCase):
    def setUp(self):
        self.board = Board.of(LISTS)
        self.desk = desk_with_patterns(self.board)

    def assertFails(self, error, attributes, call):
        """A call raises, and nothing is changed."""
        before, done = rows_of(self.board), self.desk.done
        with self.assertRaises(error) as caught:
            call()
        self.assertIs(type(caught.exception), error)
        self.assertEqual(vars(caught.exception), attributes)
        self.assertEqual((rows_of(self.board), self.desk.done), (before, done))

    def test_calls_with_arguments_left_out(self):
        self.assertIsNone(self.desk.call("put", x="n", to="todo", k=2))
        self.assertEqual(self.board.rows_of("todo"), ["a", "n", "b", "c"])
        self.assertIsNone(self.desk.call(name="take", x="b"))
        self.assertIsNone(self.desk.call("swap", x="a", y="d", to=None, k=None))
        self.desk.call("send", to="done", x="c")
        self.assertEqual((self.board.rows_of("todo"), self.board.rows_of("done")), (["d", "n"], ["a", "c"]))
        self.assertEqual(self.desk.done, 4)

    def test_no_handler_ahead_of_bad_call(self):
        for thing in NO_NAMES + ["puts", ["put"]]:
            self.assertFails(NoHandler, {"name": thing}, lambda: self.desk.call(thing, x=thing))
        for thing in NO_NAMES:
            self.assertFails(BadCall, {"argument": "x"}, lambda: self.desk.call("take", x=thing, k=thing))
            self.assertFails(BadCall, {"argument": "to"}, lambda: self.desk.call("add", x="n", to=thing))
            if thing is not None:
                self.assertFails(BadCall, {"argument": "y"}, lambda: self.desk.call("take", x="a", y=thing))
                self.assertFails(BadCall, {"argument": "k"}, lambda: self.desk.call("add", x="n", to="todo", k=thing))
        for thing in NO_INTEGERS + [0, -1, 5, BIG]:
            self.assertFails(BadCall, {"argument": "k"}, lambda: self.desk.call("put", x="n", to="todo", k=thing))
        self.assertFails(BadCall, {"argument": "x"}, lambda: self.desk.call("take"))
        self.assertFails(BadCall, {"argument": "y"}, lambda: self.desk.call("swap", x="a", y="n"))

    def test_clash(self):
        self.desk = desk_with_patterns(self.board, "up")
        self.assertFails(Clash, {"step": 0, "row": "a", "other": "b"}, lambda: self.desk.call("put", x="n", to="todo", k=1))
        self.desk.call("put", x="n", to="todo", k=3)
        self.desk = desk_with_patterns(self.board, "down")
        self.desk.call("put", x="m", to="todo", k=1)
        self.assertEqual(self.board.rows_of("todo"), ["m", "a", "b", "n", "c"])
        self.assertEqual(self.desk.done, 1)

    def test_a_handler_that_is_set_again_has_no_part_in_calls(self):
        self.desk["take"] = Handler("take", "drop x")
        self.desk.call("take", x="a")
        self.assertEqual(self.board.places_of("todo"), [2, 3])

    def test_two_desks_over_one_board(self):
        other = desk_with_patterns(self.board, "down")
        self.desk.call("top", x="c")
        other.call("put", x="n", to="done", k=1)
        self.assertEqual((self.board.rows_of("todo"), self.board.rows_of("done")), (["c", "a", "b"], ["n", "d"]))
        self.assertEqual((self.desk.done, other.done), (1, 1))
        self.assertIs(self.desk.board, other.board)


class Runs(unittest.TestCase):
    def setUp(self):
        self.board = Board.of(LISTS)
        self.desk = desk_with_patterns(self.board)
        self.good = [("put", {"x": "n", "to": "todo", "k": 1}), ("take", {"x": "b", "y": None}), ("move", {"x": "a", "to": "done", "k": 1}),
                     ("add", {"x": "m", "to": "new", "k": None}), ("swap", {"x": "d", "y": "n"})]

    def assertFails(self, calls, index, reason, desk=None):
        desk = desk or self.desk
        before, done, board = rows_of(self.board), desk.done, desk.board
        column = self.board.column("todo")
        kept = [(name, dict(arguments)) for name, arguments in calls]
        with self.assertRaises(CallFailed) as caught:
            desk.run(calls)
        self.assertEqual((caught.exception.index, caught.exception.reason), (index, reason))
        self.assertIs(type(caught.exception.reason), tuple)
        self.assertEqual((rows_of(self.board), desk.done), (before, done))
        self.assertIs(desk.board, board)
        self.assertEqual(calls, kept)
        self.assertEqual([place for place in range(-5, 9) if place in column], self.board.places_of("todo"))

    def test_all_calls(self):
        kept = [(name, dict(arguments)) for name, arguments in self.good]
        self.assertIsNone(self.desk.run(calls=self.good))
        self.assertEqual(self.good, kept)
        self.assertEqual(self.desk.done, 5)
        self.assertEqual({lst: self.board.rows_of(lst) for lst in self.board.list_names()},
                         {"todo": ["d", "c"], "done": ["a", "n"], "new": ["m"]})
        self.assertIsNone(self.desk.run([]))
        self.assertEqual(self.desk.done, 5)

    def test_each_reason_at_any_place(self):
        clashing = desk_with_patterns(self.board, "up")
        clashing["put"] = Handler("put", "write x to old count to + 1")
        for at in range(len(self.good) + 1):
            ahead, behind = self.good[:at], self.good[at:]
            self.assertFails([*ahead, ("none", {"x": "n"}), *behind], at, ("handler", "none"))
            self.assertFails([*ahead, ("take", {"x": "none"}), *behind], at, ("call", "x"))
            self.assertFails([*ahead, ("take", {}), *behind], at, ("call", "x"))
        for at in range(4):
            calls = [("put", {"x": "nop"[index], "to": "done", "k": 1}) for index in range(at % 3)]
            self.assertFails([*calls, ("swap", {"x": "a", "y": "b"})], len(calls), ("clash", 0, "a", "b"), clashing)
        self.assertEqual(self.desk.done, 0)

    def test_any_objects_as_names_and_arguments(self):
        for thing in NO_NAMES + [["put"], NESTED]:
            self.assertFails([self.good[0], (thing, {"x": thing})], 1, ("handler", thing))
            self.assertFails([self.good[0], ("take", {"x": thing})], 1, ("call", "x"))
            self.assertFails([self.good[0], ("add", {"x": "q", "to": thing, "k": thing})], 1, ("call", "to"))
            if thing is not None:
                self.assertFails([self.good[0], ("top", {"x": "a", "to": thing, "y": None})], 1, ("call", "to"))
        for thing in NO_INTEGERS + [0, 6, -BIG]:
            self.assertFails([self.good[0], ("put", {"x": "q", "to": "todo", "k": thing})], 1, ("call", "k"))

    def test_sixty_calls_in_one_go(self):
        calls = [("put", {"x": "r" + "abcdefghij"[index // 10] + "abcdefghij"[index % 10], "to": "todo", "k": 1}) for index in range(60)]
        self.assertFails([*calls[:59], ("take", {"x": "none"})], 59, ("call", "x"))
        self.desk.run(calls)
        self.assertEqual((self.desk.done, len(self.board)), (60, 64))
        self.assertEqual(self.board.rows_of("todo")[:2], ["rfj", "rfi"])

    def test_columns_and_copies(self):
        column, copy = self.board.column("todo"), self.board.copy()
        self.assertFails([("take", {"x": "a"}), ("take", {"x": "a"})], 1, ("call", "x"))
        self.assertEqual(len(column), 3)
        self.desk.run([("take", {"x": "a"})])
        self.assertEqual((len(column), 3 in column), (2, False))
        self.assertEqual(rows_of(copy), {"a": ("todo", 1), "b": ("todo", 2), "c": ("todo", 3), "d": ("done", 1)})
        column += 5
        self.assertEqual(self.board.places_of("todo"), [6, 7])

    def test_drawn_runs(self):
        draw = random.Random(2)
        failed = {}
        for number in range(200):
            visit = draw.choice((None, "up", "down"))
            board = Board.of(LISTS)
            desk = Desk(board, visit)
            lines = {}
            for index, op in enumerate(draw.sample(OPERATIONS, 4)):
                lines["abcd"[index]] = (op, Drawn(number + index, 2).nearly(op, 6))
                desk["abcd"[index]] = Handler(op, *lines["abcd"[index]][1])
            calls = [self.drawn_call(draw, lines) for _ in range(draw.randint(1, 5))]
            rows, failure = rows_of(board), None
            for index, (name, arguments) in enumerate(calls):
                rows, reason = self.carried_out(rows, name, lines, arguments, visit)
                if reason is not None:
                    failure = (index, reason)
                    break
            try:
                desk.run(calls)
                self.assertIsNone(failure)
                self.assertEqual((rows_of(board), desk.done), (rows, len(calls)))
            except CallFailed as error:
                self.assertEqual((error.index, error.reason), failure)
                self.assertEqual((rows_of(board), desk.done), (rows_of(Board.of(LISTS)), 0))
                failed[failure[1][0]] = failed.get(failure[1][0], 0) + 1
        self.assertEqual(sorted(failed), ["call", "clash", "handler"])

    def drawn_call(self, draw, lines):
        name = draw.choice("abcde") if draw.random() < 0.1 else draw.choice("abcd")
        op = lines[name][0] if name in lines else "put"
        found = {"x": draw.choice("nmo" if op in ("put", "add") else "abcd")}
        if op == "swap":
            found["y"] = draw.choice("abcd")
        if op in ("put", "add", "move", "send"):
            found["to"] = draw.choice(("todo", "done"))
        if op in ("put", "move"):
            found["k"] = draw.choice((1, 1, 2))
        return (name, found)

    def carried_out(self, rows, name, lines, arguments, visit):
        """The rows behind a call, and why it failed, or None."""
        if name not in lines:
            return rows, ("handler", name)
        op, some = lines[name]
        argument = reference.allowed_argument(op, rows, arguments)
        if argument is not None:
            return rows, ("call", argument)
        behind = reference.call(some, rows, {"x": None, **arguments}, visit)
        return (rows, behind) if isinstance(behind, tuple) else (behind, None)


class Renumber(unittest.TestCase):
    def test_ties_by_name(self):
        board = Board()
        for row, place in (("d", 7), ("b", -3), ("c", 7), ("a", 9), ("e", 7)):
            board["todo", place] = row
        board["done", 5] = "f"
        desk = Desk(board, "up")
        self.assertIsNone(desk.renumber(lst="todo"))
        self.assertEqual((board.rows_of("todo"), board.places_of("todo")), (["b", "c", "d", "e", "a"], [1, 2, 3, 4, 5]))
        self.assertEqual((board.at("f"), desk.done), (("done", 5), 0))

    def test_lists_without_rows(self):
        board = Board.of(LISTS)
        desk = Desk(board)
        before = rows_of(board)
        for lst in ("none", "todo"):
            desk.renumber(lst)
            self.assertEqual((rows_of(board), desk.done), (before, 0))


if __name__ == "__main__":
    unittest.main()
