import itertools
import random
import unittest

import reference
from lines import Drawn
from odd_objects import BIG, NESTED, NO_INTEGERS, NO_NAMES
from rowsinplace.boards import Board
from rowsinplace.errors import BadCall, BadVisit, Clash
from rowsinplace.handlers import Handler
from rowsinplace.plain import OPERATIONS, arguments_of


def board_of(rows):
    """A board with rows from a dict from names to tuples (list, place)."""
    board = Board()
    for row, spot in rows.items():
        board[spot] = row
    return board


def rows_on(board):
    return {row: board.at(row) for row in board}


class Calls(unittest.TestCase):
    def behind(self, op, lines, rows, visit=None, **arguments):
        """The rows behind a call; held against the reference."""
        board = board_of(rows)
        self.assertIsNone(Handler(op, *lines)(board, visit=visit, **arguments))
        found = rows_on(board)
        self.assertEqual(found, reference.call(lines, rows, arguments, visit))
        return found


class Words(Calls):
    """What the words of a line mean, on boards that are dense or not [13], [14]."""

    ROWS = {"x": ("home", 7), "a": ("home", -3), "b": ("home", 7), "c": ("to", 2), "d": ("to", 12), "e": ("all", 5)}

    def worth(self, term, *before, op="move", rows=None, **arguments):
        """What a term is worth, seen at the place at which it is written."""
        rows = self.ROWS if rows is None else rows
        found = self.behind(op, [*before, f"write x home {term}"], rows, **({"x": "x"} | arguments))
        return found["x"][1]

    def test_the_bases(self):
        arguments = {"to": "to", "k": 2}
        for term, worth in (
            ("0", 0), ("9", 9), ("k", 2), ("k - 9", -7), ("x", 7), ("x + 9", 16), ("old x", 7), ("old x - 1", 6),
            ("count home", 3), ("count to", 2), ("old count home", 3), ("old count to + 1", 3), ("old last home", 7),
            ("old last to", 12),
        ):
            self.assertEqual(self.worth(term, **arguments), worth, term)

    def test_as_the_step_begins_and_as_the_call_begins(self):
        arguments = {"to": "to", "k": 1}
        for before, term, worth in (
            ("shift home by 3", "x", 10), ("shift home by 3", "old x", 7), ("shift home by 3", "old last home", 7),
            ("write x to 1", "count home", 2), ("write x to 1", "count to", 3), ("write x to 1", "old count home", 3),
            ("write x to 1", "old count to", 2), ("write x to 1", "x", 1), ("write x to 1", "old x", 7),
            ("write x to 9", "old last to", 12), ("drop x", "count home", 2), ("drop x", "old count home", 3),
            ("drop x", "old x", 7), ("shift to by -2", "old last to", 12),
        ):
            self.assertEqual(self.worth(term, before, **arguments), worth, (before, term))

    def test_old_last_below_zero_and_without_rows(self):
        rows = {"x": ("p", -5), "a": ("p", -3), "b": ("q", -40), "c": ("q", -BIG)}
        self.assertEqual(self.worth("old last home", rows=rows, op="send", to="q"), -3)
        self.assertEqual(self.worth("old last to + 1", rows=rows, op="send", to="q"), -39)
        self.assertEqual(self.worth("old last to", rows=rows, op="send", to="none"), 0)
        self.assertEqual(self.worth("old count to", rows=rows, op="send", to="none"), 0)
        self.assertEqual(self.behind("add", ["write x to old last to - 1"], rows, x="n", to="q")["n"], ("q", -41))
        self.assertEqual(self.behind("add", ["write x to old last to - 1"], {}, x="n", to="q")["n"], ("q", -1))
        zero = {"x": ("p", 0), "a": ("p", -3)}
        self.assertEqual(self.worth("old last home + 1", rows=zero, op="take"), 1)

    def test_the_bases_y(self):
        rows = {"r": ("p", 3), "s": ("q", 20), "t": ("q", 40)}
        for lines, place in (
            (["write x to y + 1"], 21), (["shift to by 1", "write x to y"], 21), (["shift to by 1", "write x to old y"], 20),
            (["write y home 1", "write x to y"], 1), (["write y home 1", "write x to count to"], 1),
            (["write y home 1", "write x to count home"], 2), (["write y home 1", "write x to old last to"], 40),
        ):
            found = self.behind("swap", lines, rows, x="r", y="s")
            self.assertEqual(found["r"], ("q", place), lines)

    def test_home_and_to_are_settled_as_the_call_begins(self):
        rows = {"r": ("p", 3), "s": ("q", 20), "a": ("p", 1), "b": ("q", 1)}
        found = self.behind("swap", ["write x to 5", "write y home 6", "shift home by 1", "shift to by -1"], rows, x="r", y="s")
        self.assertEqual(found, {"r": ("q", 4), "s": ("p", 7), "a": ("p", 2), "b": ("q", 0)})

    def test_words_are_never_names(self):
        rows = {"x": ("to", 1), "y": ("home", 1), "to": ("all", 1), "home": ("to", 2)}
        found = self.behind("send", ["shift home by 1", "shift to by 3 except x"], rows, x="to", to="home")
        self.assertEqual(found, {"x": ("to", 1), "y": ("home", 4), "to": ("all", 2), "home": ("to", 2)})
        found = self.behind("swap", ["shift all by 1 except y"], rows, x="y", y="x")
        self.assertEqual(found, {"x": ("to", 1), "y": ("home", 2), "to": ("all", 2), "home": ("to", 3)})

    def test_shifts(self):
        rows = {"x": ("p", 1), "a": ("p", 1), "b": ("p", -2), "c": ("p", 5), "d": ("q", 1), "e": ("r", 9)}
        for line, moved in (
            ("shift home by -3", "xabc"), ("shift all by 2", "xabcde"), ("shift home by 1 except x", "abc"),
            ("shift all by 1 except x", "abcde"), ("shift home by 1 where place > 1", "c"),
            ("shift home by 1 where place >= 1", "xac"), ("shift home by 1 where place < 1", "b"),
            ("shift home by 1 where place <= 1", "xab"), ("shift home by 1 where place = 1", "xa"),
            ("shift home by 1 where place = 1 except x", "a"), ("shift home by 1 where place > x - 4 and place < x", "b"),
            ("shift all by 1 where place > 1 and place < 9", "c"), ("shift home by 1 where place = 1 and place = 2", ""),
            ("shift home by 1 where place > 0 and place > 1 and place > 4", "c"),
        ):
            found = self.behind("take", [line], rows, x="x")
            by = int(line.split(" ")[3])
            self.assertEqual(found, {row: (lst, place + by * (row in moved)) for row, (lst, place) in rows.items()}, line)

    def test_conditions_are_settled_as_the_step_begins(self):
        # Row x moves too, but the others are held against where it was.
        rows = {"x": ("p", 2), "a": ("p", 1), "b": ("p", 3), "c": ("p", 4)}
        found = self.behind("take", ["shift home by 2 where place >= x"], rows, x="x")
        self.assertEqual(found, {"x": ("p", 4), "a": ("p", 1), "b": ("p", 5), "c": ("p", 6)})

    def test_writes(self):
        rows = {"x": ("p", 2), "a": ("p", 1), "b": ("q", 3)}
        self.assertEqual(self.behind("take", ["write x home 1"], rows, x="x")["x"], ("p", 1))
        self.assertEqual(self.behind("send", ["write x to x"], rows, x="x", to="q")["x"], ("q", 2))
        self.assertEqual(self.behind("send", ["write x to count to"], rows, x="x", to="z")["x"], ("z", 0))
        found = self.behind("put", ["write x to k"], rows, x="n", to="p", k=3)
        self.assertEqual(found, {**rows, "n": ("p", 3)})

    def test_drops(self):
        rows = {"x": ("p", 2), "a": ("p", 1), "b": ("q", 3)}
        found = self.behind("take", ["drop x"], rows, x="x")
        self.assertEqual(found, {"a": ("p", 1), "b": ("q", 3)})
        found = self.behind("take", ["drop x", "shift home by 1 except x", "write x home old x + 1"], rows, x="x")
        self.assertEqual(found, {"a": ("p", 2), "b": ("q", 3), "x": ("p", 3)})
        self.assertEqual(self.behind("take", ["drop x"], {"r": ("p", 0)}, x="r"), {})

    def test_guards(self):
        rows = {"x": ("p", 2), "a": ("p", 1), "b": ("q", 3)}
        for guard, found in (
            ("x < 3", True), ("x < 2", False), ("x <= 2", True), ("x > 1", True), ("2 > x", False), ("x >= 3", False),
            ("x = 2", True), ("x = old x + 1", False), ("k = 1", True), ("count to = count home", False),
            ("old last to > old last home", True), ("within", False), ("apart", True),
        ):
            behind = self.behind("move", [f"when {guard} do shift home by 1"], rows, x="x", to="q", k=1)
            self.assertEqual(behind["a"][1], 2 if found else 1, guard)
            behind = self.behind("move", [f"when {guard} do write x to 9"], rows, x="x", to="q", k=1)
            self.assertEqual(behind["x"], ("q", 9) if found else ("p", 2), guard)

    def test_within_and_apart(self):
        rows = {"x": ("p", 2), "a": ("p", 1), "b": ("q", 3)}
        for guard, to, place in (("within", "p", 2), ("within", "q", 1), ("apart", "p", 1), ("apart", "q", 2)):
            found = self.behind("send", [f"when {guard} do shift home by 1 except x"], rows, x="x", to=to)
            self.assertEqual(found["a"], ("p", place), (guard, to))
        for y, place in (("x", 2), ("a", 2), ("b", 1)):
            found = self.behind("swap", ["when within do write x home 2", "when within do write y home 2"], rows, x="x", y=y)
            self.assertEqual(found["a"], ("p", place if y == "a" else 1), y)
        # It is settled as the call begins: x may have been written elsewhere.
        found = self.behind("send", ["write x to 1", "when within do shift all by 1"], rows, x="x", to="q")
        self.assertEqual(found["a"], ("p", 1))

    def test_guards_are_asked_as_the_step_begins(self):
        rows = {"x": ("p", 2), "a": ("p", 1)}
        found = self.behind("take", ["shift home by 1", "when x = 3 do shift home by 1"], rows, x="x")
        self.assertEqual(found, {"x": ("p", 4), "a": ("p", 3)})

    def test_places_of_thirty_digits(self):
        rows = {"x": ("p", BIG), "a": ("p", BIG - 1), "b": ("p", -BIG), "c": ("q", BIG + 7)}
        lines = ["shift home by 3 where place >= x - 1 and place <= old last home", "write x to old last to - 9"]
        found = self.behind("send", lines, rows, x="x", to="q")
        self.assertEqual(found, {"x": ("q", BIG - 2), "a": ("p", BIG + 2), "b": ("p", -BIG), "c": ("q", BIG + 7)})

    def test_x_and_y_are_one_row(self):
        rows = {"r": ("p", 3), "s": ("p", 5)}
        found = self.behind("swap", ["write x home y + 1", "write y to x + 1", "shift home by 1 except y"], rows, x="r", y="r")
        self.assertEqual(found, {"r": ("p", 5), "s": ("p", 6)})

    def test_the_board_is_changed_and_keeps_its_other_rows(self):
        board = board_of(self.ROWS)
        column = board.column("home")
        self.assertIsNone(Handler("take", "shift home by 1", "drop x")(board, "x"))
        self.assertEqual(rows_on(board), {"a": ("home", -2), "b": ("home", 8), "c": ("to", 2), "d": ("to", 12), "e": ("all", 5)})
        self.assertEqual(len(column), 2)

    def test_by_position_and_by_name(self):
        for handler, arguments in ((Handler("move", "write x to k"), ("r", None, "q", 1)), (Handler("swap", "write x to y"), ("r", "s"))):
            names = ("x", "y", "to", "k")
            board, other = board_of({"r": ("p", 3), "s": ("p", 5)}), board_of({"r": ("p", 3), "s": ("p", 5)})
            handler(board, *arguments)
            handler(board=other, **dict(zip(names, arguments)))
            self.assertEqual(rows_on(board), rows_on(other))

    def test_held_against_the_reference(self):
        draw = random.Random(3)
        clashes = 0
        for op, seed in itertools.product(OPERATIONS, range(60)):
            lines = Drawn(seed, 9 if seed % 3 == 0 else 2).handler(op)
            handler = Handler(op, *lines)
            for _ in range(12):
                rows = drawn_rows(draw, dense=draw.random() < 0.3)
                arguments = drawn_call(draw, op, rows)
                if arguments is None:
                    continue
                for visit in (None, "up", "down"):
                    clashes += self.compared(handler, lines, rows, arguments, visit)
        self.assertGreater(clashes, 500)

    def compared(self, handler, lines, rows, arguments, visit):
        board = board_of(rows)
        expected = reference.call(lines, rows, arguments, visit)
        if isinstance(expected, dict):
            self.assertIsNone(handler(board, **arguments, visit=visit))
            self.assertEqual(rows_on(board), expected, (handler.text, rows, arguments, visit))
            return 0
        with self.assertRaises(Clash) as caught:
            handler(board, **arguments, visit=visit)
        error = caught.exception
        self.assertEqual(("clash", error.step, error.row, error.other), expected, (handler.text, rows, arguments, visit))
        self.assertEqual(rows_on(board), rows)
        return 1


def drawn_rows(draw, dense):
    """Rows in up to three lists, dense or anywhere."""
    rows = {}
    names = draw.sample("abcdefghij", 7)
    for lst in ("p", "q", "r"):
        many = draw.randint(0, 3)
        places = list(range(1, many + 1)) if dense else [draw.randint(-3, 6) for _ in range(many)]
        draw.shuffle(places)
        for place in places:
            if names:
                rows[names.pop()] = (lst, place)
    return rows


def drawn_call(draw, op, rows):
    """The arguments of an allowed call, or None if there is none."""
    if op not in ("put", "add") and not rows:
        return None
    names = sorted(rows)
    worths = {"x": "n" if op in ("put", "add") else None, "y": None, "to": draw.choice(["p", "q", "r", "s"])}
    worths["x"] = worths["x"] or draw.choice(names)
    worths["y"] = draw.choice(names) if names else None
    count = len([row for row in rows if rows[row][0] == worths["to"] and row != worths["x"]])
    worths["k"] = draw.randint(1, count + 1)
    return {name: worths[name] for name in arguments_of(op)}


class Allowed(unittest.TestCase):
    """Which calls are allowed on boards that are dense or not [11]."""

    ROWS = {"a": ("p", -5), "b": ("p", 7), "c": ("p", 7), "d": ("q", 100)}

    def assertBad(self, argument, op, rows, arguments):
        board = board_of(rows)
        for visit in (None, "up", "down", "none", 5):
            with self.assertRaises(BadCall) as caught:
                Handler(op, "shift all by 1")(board, **arguments, visit=visit)
            self.assertEqual(caught.exception.argument, argument, (op, arguments))
        self.assertEqual(rows_on(board), rows)

    def good(self, op):
        worths = {"x": "n" if op in ("put", "add") else "b", "y": "d", "to": "q", "k": 1}
        return {name: worths[name] for name in arguments_of(op)}

    def test_any_object_in_each_place(self):
        for op in OPERATIONS:
            good = self.good(op)
            Handler(op)(board_of(self.ROWS), **good)
            for name in ("x", "y", "to", "k"):
                for thing in (NO_INTEGERS if name == "k" else NO_NAMES) + [["b"], ("q",), NESTED]:
                    arguments = {**good, name: thing}
                    expected = reference.allowed_argument(op, self.ROWS, arguments)
                    if expected is not None:
                        self.assertBad(expected, op, self.ROWS, arguments)

    def test_arguments_that_are_left_out_or_too_many(self):
        for op in OPERATIONS:
            for thing in (("x", "a"), ("y", "a"), ("to", "p"), ("k", 1)):
                for arguments in ({**self.good(op), thing[0]: thing[1]}, {**self.good(op), thing[0]: None}):
                    expected = reference.allowed_argument(op, self.ROWS, arguments)
                    if expected is None:
                        Handler(op)(board_of(self.ROWS), **arguments)
                    else:
                        self.assertBad(expected, op, self.ROWS, arguments)

    def test_the_range_of_k_goes_by_the_number_of_rows(self):
        for op, x, to, last in (("put", "n", "p", 4), ("put", "n", "q", 2), ("put", "n", "z", 1), ("move", "a", "p", 3),
                                ("move", "d", "p", 4), ("move", "d", "q", 1), ("move", "a", "q", 2), ("move", "a", "z", 1)):
            for k in (-BIG, -1, 0, last + 1, 7, 100, BIG):
                self.assertBad("k", op, self.ROWS, {"x": x, "to": to, "k": k})
            for k in range(1, last + 1):
                board = board_of(self.ROWS)
                Handler(op, "write x to k")(board, x=x, to=to, k=k)
                self.assertEqual(board.at(x), (to, k))

    def test_all_objects_at_once(self):
        self.assertBad("x", "swap", self.ROWS, {"x": NESTED, "y": NESTED, "to": NESTED, "k": NESTED})
        self.assertBad("y", "swap", self.ROWS, {"x": "a", "y": NESTED, "to": NESTED, "k": NESTED})
        self.assertBad("to", "swap", self.ROWS, {"x": "a", "y": "a", "to": NESTED, "k": NESTED})
        self.assertBad("k", "swap", self.ROWS, {"x": "a", "y": "a", "k": NESTED})


class Visits(unittest.TestCase):
    """Calls on boards that allow no two rows of a list at one place [18]."""

    def clash(self, op, lines, rows, visit, **arguments):
        board = board_of(rows)
        with self.assertRaises(Clash) as caught:
            Handler(op, *lines)(board, **arguments, visit=visit)
        self.assertEqual(rows_on(board), rows)
        error = caught.exception
        self.assertEqual(("clash", error.step, error.row, error.other), reference.call(lines, rows, arguments, visit))
        return (error.step, error.row, error.other)

    def passes(self, op, lines, rows, visit, **arguments):
        board = board_of(rows)
        self.assertIsNone(Handler(op, *lines)(board, **arguments, visit=visit))
        self.assertEqual(rows_on(board), reference.call(lines, rows, arguments, visit))

    def test_up_and_down(self):
        rows = {"a": ("p", 1), "b": ("p", 2), "c": ("p", 3)}
        for line in ("shift to by 1", "shift all by 1", "shift to by 1 where place >= k"):
            self.assertEqual(self.clash("put", [line], rows, "up", x="n", to="p", k=1), (0, "a", "b"))
            self.passes("put", [line], rows, "down", x="n", to="p", k=1)
            self.passes("put", [line], rows, None, x="n", to="p", k=1)
        self.assertEqual(self.clash("put", ["shift to by -1"], rows, "down", x="n", to="p", k=1), (0, "c", "b"))
        self.passes("put", ["shift to by -1"], rows, "up", x="n", to="p", k=1)
        self.assertEqual(self.clash("put", ["shift to by 2"], rows, "up", x="n", to="p", k=1), (0, "a", "c"))
        self.assertEqual(self.clash("put", ["shift to by -2"], rows, "down", x="n", to="p", k=1), (0, "c", "a"))

    def test_several_lists(self):
        rows = {"d": ("p", 1), "c": ("p", 2), "b": ("q", 1), "a": ("q", 2)}
        self.assertEqual(self.clash("take", ["shift all by 1"], rows, "up", x="a"), (0, "d", "c"))
        self.assertEqual(self.clash("take", ["shift all by -1"], rows, "down", x="a"), (0, "a", "b"))
        # Rows of other lists at the same place are no others.
        self.passes("take", ["shift all by 1"], rows, "down", x="a")
        self.passes("take", ["shift all by -1"], rows, "up", x="a")

    def test_rows_of_one_place_are_visited_by_their_names(self):
        rows = {"b": ("p", 1), "a": ("p", 1), "c": ("p", 2), "d": ("p", 2)}
        self.assertEqual(self.clash("take", ["shift home by 1"], rows, "up", x="a"), (0, "a", "c"))
        self.assertEqual(self.clash("take", ["shift home by 1 except x"], rows, "up", x="a"), (0, "b", "c"))
        self.assertEqual(self.clash("take", ["shift home by 1"], rows, "down", x="a"), (0, "c", "d"))
        self.assertEqual(self.clash("take", ["shift home by -1"], rows, "down", x="a"), (0, "d", "a"))
        self.assertEqual(self.clash("take", ["shift home by -1"], rows, "up", x="a"), (0, "b", "a"))

    def test_the_first_other_by_name(self):
        rows = {"x": ("p", 1), "c": ("p", 2), "b": ("p", 2), "d": ("p", 2)}
        self.assertEqual(self.clash("take", ["write x home 2"], rows, "up", x="x"), (0, "x", "b"))
        self.assertEqual(self.clash("take", ["shift home by 1 where place < 2"], rows, "down", x="x"), (0, "x", "b"))

    def test_writes(self):
        rows = {"x": ("p", 1), "a": ("p", 2), "b": ("q", 1)}
        self.assertEqual(self.clash("send", ["shift all by 3 where place > 9", "write x to 1"], rows, "up", x="x", to="q"),
                         (1, "x", "b"))
        self.assertEqual(self.clash("take", ["write x home 2"], rows, "down", x="x"), (0, "x", "a"))
        self.assertEqual(self.clash("add", ["write x to 2"], rows, "down", x="n", to="p"), (0, "n", "a"))
        self.passes("send", ["write x to 2"], rows, "up", x="x", to="q")
        self.passes("take", ["write x home 1"], rows, "up", x="x")

    def test_a_written_row_counts_as_changed_where_it_stays(self):
        rows = {"x": ("p", 1), "a": ("p", 1)}
        self.assertEqual(self.clash("take", ["write x home x"], rows, "up", x="x"), (0, "x", "a"))
        self.assertEqual(self.clash("take", ["write x home 1"], rows, "down", x="x"), (0, "x", "a"))
        self.passes("take", ["write x home x"], rows, None, x="x")

    def test_rows_that_are_not_changed_are_not_looked_at(self):
        rows = {"x": ("p", 5), "a": ("p", 1), "b": ("p", 1), "c": ("q", 2), "d": ("q", 2)}
        for visit in ("up", "down"):
            self.passes("take", ["shift home by 1 where place > 2"], rows, visit, x="x")
            self.passes("take", ["drop x"], rows, visit, x="x")
            self.passes("take", ["when x = 4 do shift home by -3"], rows, visit, x="x")
            self.passes("take", [], rows, visit, x="x")

    def test_a_clash_of_a_later_step_leaves_nothing_behind(self):
        rows = {"x": ("p", 1), "a": ("p", 2), "b": ("q", 1)}
        lines = ["shift home by 3", "write x to 7", "drop x", "write x to 2", "shift to by -1 where place = 2"]
        self.assertEqual(self.clash("send", lines, rows, "up", x="x", to="q"), (4, "x", "b"))
        lines = ["write x to 7", "shift to by -1", "write x to 0"]
        self.assertEqual(self.clash("add", lines, rows, "up", x="n", to="q"), (2, "n", "b"))

    def test_any_object_as_a_visit(self):
        rows = {"x": ("p", 1)}
        for thing in NO_NAMES[1:] + ["any", "Up", "up ", "updown", ["up"], ("up",), "none"]:
            board = board_of(rows)
            with self.assertRaises(BadVisit) as caught:
                Handler("take", "drop x")(board, "x", visit=thing)
            self.assertEqual(caught.exception.visit, thing)
            self.assertEqual(rows_on(board), rows)
            with self.assertRaises(BadCall):
                Handler("take", "drop x")(board, "y", visit=thing)
        board = board_of(rows)
        Handler("take", "drop x")(board, "x", None, None, None, "up")
        self.assertEqual(len(board), 0)


if __name__ == "__main__":
    unittest.main()
