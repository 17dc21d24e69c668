import random
import unittest

from rowsinplace import boards
from rowsinplace.boards import Board, Column
from rowsinplace.errors import BadName, BadPlace, NoPlace, NoRow, Twice
from odd_objects import BIG, NO_INTEGERS, NO_NAMES

NAMES = ["a", "b", "c", "d", "e", "zz", "abcdefgh"]


def board_with(*rows):
    """A board with rows (list, place, name), written in this order."""
    board = Board()
    for lst, place, row in rows:
        board[lst, place] = row
    return board


def rows_on(board):
    return {row: board.at(row) for row in board}


class Making(unittest.TestCase):
    def test_the_classes_stand_in_the_module_with_all_their_methods(self):
        self.assertEqual(Board.__module__, "rowsinplace.boards")
        self.assertEqual(Column.__module__, "rowsinplace.boards")
        self.assertIs(vars(boards)["Column"], Column)
        for name in ("of", "__setitem__", "__getitem__", "__contains__", "__len__", "__iter__", "at", "drop",
                     "rows_of", "places_of", "list_names", "copy", "first_fault", "is_dense", "is_unlike", "show",
                     "column"):
            self.assertIn(name, vars(Board))
        for name in ("__init__", "__iadd__", "__isub__", "__len__", "__contains__"):
            self.assertIn(name, vars(Column))

    def test_a_board_without_rows(self):
        board = Board()
        self.assertEqual(len(board), 0)
        self.assertEqual(list(board), [])
        self.assertEqual(board.list_names(), [])
        self.assertEqual(board.rows_of("a"), [])
        self.assertEqual(board.places_of("a"), [])
        self.assertIsNone(board.first_fault())
        self.assertIs(board.is_dense, True)
        self.assertIs(board.is_unlike, True)
        self.assertEqual(board.show(), "")

    def test_of_a_plain_board(self):
        lists = {"to": ["d", "a"], "home": ["x"], "empty": []}
        board = Board.of(lists)
        self.assertEqual(rows_on(board), {"d": ("to", 1), "a": ("to", 2), "x": ("home", 1)})
        self.assertEqual(board.list_names(), ["home", "to"])
        self.assertIs(board.is_dense, True)
        self.assertIs(type(board), Board)
        self.assertEqual(lists, {"to": ["d", "a"], "home": ["x"], "empty": []})
        self.assertEqual(len(Board.of({})), 0)
        self.assertEqual(len(Board.of(lists={"a": []})), 0)

    def test_of_keeps_nothing_of_what_was_passed(self):
        lists = {"a": ["x", "y"]}
        board = Board.of(lists)
        lists["a"].append("z")
        lists["b"] = ["w"]
        self.assertEqual(board.rows_of("a"), ["x", "y"])
        self.assertEqual(board.list_names(), ["a"])

    def test_a_row_and_a_list_may_have_one_name(self):
        board = Board.of({"a": ["a", "b"], "b": ["to"]})
        self.assertEqual(rows_on(board), {"a": ("a", 1), "b": ("a", 2), "to": ("b", 1)})

    def test_of_with_rows_that_are_no_names(self):
        for thing in NO_NAMES:
            with self.assertRaises(BadName) as caught:
                Board.of({"a": ["x", thing, "x"]})
            self.assertIs(caught.exception.name, thing)

    def test_of_with_a_row_twice(self):
        for lists in ({"a": ["x", "y", "x"]}, {"a": ["x"], "b": ["y", "x"]}, {"b": ["x"], "a": ["x"]}):
            with self.assertRaises(Twice) as caught:
                Board.of(lists)
            self.assertEqual(caught.exception.row, "x")

    def test_of_goes_by_lists_ascending_and_rows_in_their_order(self):
        for lists, error, value in [
            ({"b": [5], "a": ["x", "x"]}, Twice, "x"),
            ({"b": ["x", "x"], "a": [5]}, BadName, 5),
            ({"b": ["q", "p"], "a": ["p", "q"]}, Twice, "q"),
            ({"a": ["x", "y", "y", 5, "x"]}, Twice, "y"),
            ({"a": ["x", "A", "x"]}, BadName, "A"),
            ({"b": ["x", []], "a": ["x"]}, Twice, "x"),
            ({"b": [[], "x"], "a": ["x"]}, BadName, []),
        ]:
            with self.assertRaises(error) as caught:
                Board.of(lists)
            self.assertEqual(caught.exception.args, (value,))

    def test_two_hundred_rows(self):
        names = ["r" + chr(97 + at // 26) + chr(97 + at % 26) for at in range(200)]
        board = Board.of({"a": names[:120], "b": names[120:]})
        self.assertEqual(len(board), 200)
        self.assertEqual(board.rows_of("a") + board.rows_of("b"), names)
        self.assertIs(board.is_dense, True)


class Writing(unittest.TestCase):
    def test_a_new_row(self):
        board = board_with(("a", 3, "x"), ("b", 3, "y"), ("a", -BIG, "z"), ("a", 0, "w"))
        self.assertEqual(rows_on(board), {"x": ("a", 3), "y": ("b", 3), "z": ("a", -BIG), "w": ("a", 0)})

    def test_a_row_that_was_there(self):
        board = Board.of({"a": ["x", "y"], "b": ["z"]})
        board["b", 1] = "x"
        self.assertEqual(rows_on(board), {"x": ("b", 1), "y": ("a", 2), "z": ("b", 1)})
        board["b", 1] = "x"
        self.assertEqual(rows_on(board), {"x": ("b", 1), "y": ("a", 2), "z": ("b", 1)})
        board["b", 7] = "z"
        board["c", BIG] = "y"
        self.assertEqual(rows_on(board), {"x": ("b", 1), "y": ("c", BIG), "z": ("b", 7)})
        self.assertEqual(board.list_names(), ["b", "c"])
        self.assertEqual(len(board), 3)

    def test_errors_in_their_order(self):
        board = Board.of({"a": ["x", "y"]})
        before = rows_on(board)
        for lst in NO_NAMES:
            for place, row in ((1, "x"), (None, "x"), (1, None), (True, [])):
                with self.assertRaises(BadName) as caught:
                    board[lst, place] = row
                self.assertIs(caught.exception.name, lst)
        for place in NO_INTEGERS:
            for row in ("x", "new", None, []):
                with self.assertRaises(BadPlace) as caught:
                    board["a", place] = row
                self.assertIs(caught.exception.place, place)
        for row in NO_NAMES:
            with self.assertRaises(BadName) as caught:
                board["a", 5] = row
            self.assertIs(caught.exception.name, row)
        self.assertEqual(rows_on(board), before)

    def test_reading(self):
        board = board_with(("a", 2, "y"), ("a", 2, "x"), ("a", 2, "z"), ("a", 1, "w"), ("b", -3, "v"), ("b", BIG, "a"))
        self.assertEqual(board["a", 2], "x")
        self.assertEqual(board["a", 1], "w")
        self.assertEqual(board["b", -3], "v")
        self.assertEqual(board["b", BIG], "a")
        board.drop("x")
        self.assertEqual(board["a", 2], "y")

    def test_reading_where_no_row_is(self):
        board = Board.of({"a": ["x"], "b": ["y", "z"]})
        board["a", 0] = "w"
        for lst, place in [("a", 2), ("b", 0), ("c", 1), ("a", -BIG), *[(thing, 1) for thing in NO_NAMES],
                           *[("a", thing) for thing in NO_INTEGERS], ([], []), (["a"], 1)]:
            with self.assertRaises(NoPlace) as caught:
                board[lst, place]
            self.assertIs(caught.exception.lst, lst)
            self.assertIs(caught.exception.place, place)

    def test_in(self):
        board = Board.of({"a": ["x", "y"]})
        self.assertIs("x" in board, True)
        for thing in [*NO_NAMES, "a", "z", ["x"], ("x",)]:
            self.assertIs(thing in board, False)

    def test_at_and_drop(self):
        board = Board.of({"a": ["x", "y"], "b": ["z"]})
        self.assertEqual(board.at("y"), ("a", 2))
        self.assertIs(type(board.at(row="y")), tuple)
        self.assertIsNone(board.drop("x"))
        self.assertEqual(rows_on(board), {"y": ("a", 2), "z": ("b", 1)})
        board.drop(row="z")
        self.assertEqual(board.list_names(), ["a"])
        for thing in [*NO_NAMES, "x", "q", ["y"]]:
            for method in (board.at, board.drop):
                with self.assertRaises(NoRow) as caught:
                    method(thing)
                self.assertIs(caught.exception.row, thing)
        self.assertEqual(rows_on(board), {"y": ("a", 2)})
        board["a", 1] = "x"
        self.assertEqual(board.rows_of("a"), ["x", "y"])

    def test_len_and_iteration(self):
        board = Board.of({"a": ["x", "y"], "b": ["z"]})
        self.assertEqual(len(board), 3)
        self.assertEqual(sorted(board), ["x", "y", "z"])

    def test_the_board_may_be_changed_while_it_is_iterated_over(self):
        board = Board.of({"a": ["x", "y"], "b": ["z"]})
        for row in board:
            board.drop(row)
            board["c", 1] = "new"
        self.assertEqual(rows_on(board), {"new": ("c", 1)})


class Order(unittest.TestCase):
    def test_by_place_then_by_name(self):
        board = board_with(("a", 10, "c"), ("a", 9, "d"), ("a", 10, "b"), ("a", -10, "e"), ("a", -9, "f"), ("b", 1, "a"))
        self.assertEqual(board.rows_of("a"), ["e", "f", "d", "b", "c"])
        self.assertEqual(board.places_of("a"), [-10, -9, 9, 10, 10])
        self.assertEqual(board.rows_of(lst="b"), ["a"])
        self.assertEqual(board.places_of(lst="b"), [1])

    def test_a_list_without_rows(self):
        board = Board.of({"a": [], "b": ["x"]})
        self.assertEqual(board.rows_of("a"), [])
        self.assertEqual(board.places_of("c"), [])
        self.assertEqual(board.list_names(), ["b"])

    def test_list_names(self):
        board = board_with(("zz", 1, "a"), ("b", 1, "b"), ("aa", 5, "c"), ("b", 9, "d"))
        self.assertEqual(board.list_names(), ["aa", "b", "zz"])

    def test_what_is_returned_is_new(self):
        board = Board.of({"a": ["x", "y"]})
        for returned in (board.rows_of("a"), board.places_of("a"), board.list_names()):
            returned.clear()
        self.assertEqual(board.rows_of("a"), ["x", "y"])
        self.assertEqual(board.places_of("a"), [1, 2])
        self.assertEqual(board.list_names(), ["a"])

    def test_copy(self):
        board = board_with(("a", 2, "x"), ("a", 2, "y"), ("b", -1, "z"))
        other = board.copy()
        self.assertIs(type(other), Board)
        self.assertIsNot(other, board)
        self.assertEqual(rows_on(other), rows_on(board))
        other["b", 5] = "x"
        other.drop("z")
        column = other.column("a")
        column += 1
        self.assertEqual(rows_on(board), {"x": ("a", 2), "y": ("a", 2), "z": ("b", -1)})
        self.assertEqual(rows_on(other), {"x": ("b", 5), "y": ("a", 3)})
        board["c", 1] = "w"
        self.assertNotIn("w", other)


class Show(unittest.TestCase):
    def test_lines(self):
        board = board_with(("to", 2, "b"), ("home", 1, "x"), ("to", 10, "a"), ("to", 2, "aa"), ("to", -3, "c"))
        self.assertEqual(board.show(), "\n".join([
            "home: 1",
            "     1 x",
            "to: 4",
            "    -3 c",
            "     2 aa",
            "     2 b",
            "    10 a",
        ]))

    def test_wide_places(self):
        board = board_with(("a", 123456, "b"), ("a", 1234567, "c"), ("a", -12345, "d"), ("a", -123456, "e"),
                           ("a", BIG, "f"))
        self.assertEqual(board.show(), "\n".join([
            "a: 5",
            "-123456 e",
            "-12345 d",
            "123456 b",
            "1234567 c",
            "1" + "0" * 30 + " f",
        ]))

    def test_without_rows(self):
        board = Board.of({"a": ["x"]})
        board.drop("x")
        self.assertEqual(board.show(), "")


def plain_fault(lists):
    """first_fault as the document says it; lists maps names to (place, row) in any order."""
    for lst in sorted(lists):
        rows = sorted(lists[lst])
        if [place for place, _ in rows] == list(range(1, len(rows) + 1)):
            continue
        low = [row for place, row in rows if place < 1]
        high = [row for place, row in rows if place > len(rows)]
        if low:
            return ("low", lst, low[0])
        if high:
            return ("high", lst, high[0])
        double = [at for at in range(1, len(rows)) if rows[at][0] == rows[at - 1][0]]
        return ("double", lst, rows[double[0] - 1][1], rows[double[0]][1])
    return None


class Faults(unittest.TestCase):
    def test_each_answer(self):
        for rows, fault in [
            ([("a", 1, "x")], None),
            ([("a", 2, "x"), ("a", 1, "y")], None),
            ([("a", 0, "x")], ("low", "a", "x")),
            ([("a", -BIG, "x"), ("a", 1, "y")], ("low", "a", "x")),
            ([("a", 0, "z"), ("a", -1, "x"), ("a", 0, "y"), ("a", 9, "w")], ("low", "a", "x")),
            ([("a", 0, "z"), ("a", 0, "y")], ("low", "a", "y")),
            ([("a", 2, "x")], ("high", "a", "x")),
            ([("a", 1, "x"), ("a", 1, "y"), ("a", 4, "w"), ("a", 5, "v")], ("high", "a", "v")),
            ([("a", 1, "x"), ("a", 4, "z"), ("a", 4, "w")], ("high", "a", "w")),
            ([("a", 1, "x"), ("a", BIG, "z")], ("high", "a", "z")),
            ([("a", 1, "y"), ("a", 1, "x")], ("double", "a", "x", "y")),
            ([("a", 1, "z"), ("a", 2, "y"), ("a", 2, "x")], ("double", "a", "x", "y")),
            ([("a", 2, "z"), ("a", 2, "y"), ("a", 2, "x")], ("double", "a", "x", "y")),
            ([("a", 1, "d"), ("a", 1, "c"), ("a", 3, "a"), ("a", 3, "b")], ("double", "a", "c", "d")),
        ]:
            board = board_with(*rows)
            self.assertEqual(board.first_fault(), fault, rows)
            self.assertIs(board.is_dense, fault is None)

    def test_several_faulty_lists(self):
        board = board_with(("c", 0, "x"), ("b", 7, "y"), ("a", 1, "z"))
        self.assertEqual(board.first_fault(), ("high", "b", "y"))
        board["b", 1] = "y"
        self.assertEqual(board.first_fault(), ("low", "c", "x"))
        board["c", 1] = "x"
        self.assertIsNone(board.first_fault())
        board["b", 1] = "z"
        self.assertEqual(board.first_fault(), ("double", "b", "y", "z"))

    def test_against_the_words_of_the_document(self):
        chance = random.Random(8)
        seen = set()
        for _ in range(3000):
            board, lists = Board(), {}
            for row in chance.sample(NAMES, chance.randint(0, 5)):
                lst, place = chance.choice(["a", "b"]), chance.choice([0, 1, 1, 2, 2, 3, 3, 4])
                board[lst, place] = row
                lists.setdefault(lst, []).append((place, row))
            fault = plain_fault(lists)
            seen.add(fault and fault[0])
            self.assertEqual(board.first_fault(), fault)
            self.assertIs(board.is_dense, fault is None)
            spots = [(lst, place) for lst in lists for place, row in lists[lst]]
            unlike = len(set(spots)) == len(spots) and all([place > 0 for _, place in spots])
            self.assertIs(board.is_unlike, unlike)
        self.assertEqual(seen, {None, "low", "high", "double"})

    def test_unlike(self):
        for rows, unlike in [
            ([("a", 1, "x"), ("a", 5, "y"), ("b", 5, "z")], True),
            ([("a", BIG, "x")], True),
            ([("a", 1, "x"), ("a", 1, "y")], False),
            ([("a", 0, "x")], False),
            ([("a", 3, "x"), ("b", -BIG, "y")], False),
        ]:
            self.assertIs(board_with(*rows).is_unlike, unlike)

    def test_properties_follow_the_board(self):
        board = Board.of({"a": ["x", "y"]})
        board.drop("x")
        self.assertIs(board.is_dense, False)
        self.assertIs(board.is_unlike, True)
        board["a", 0] = "y"
        self.assertIs(board.is_unlike, False)


class Columns(unittest.TestCase):
    def test_adding_and_taking(self):
        board = Board.of({"a": ["x", "y"], "b": ["z"]})
        column = board.column("a")
        self.assertIsInstance(column, Column)
        column += 3
        self.assertEqual(rows_on(board), {"x": ("a", 4), "y": ("a", 5), "z": ("b", 1)})
        self.assertIsInstance(column, Column)
        column -= 5
        self.assertEqual(rows_on(board), {"x": ("a", -1), "y": ("a", 0), "z": ("b", 1)})
        column -= -1
        column += -2
        column += 0
        self.assertEqual(rows_on(board), {"x": ("a", -2), "y": ("a", -1), "z": ("b", 1)})
        column += BIG
        self.assertEqual(board.places_of("a"), [BIG - 2, BIG - 1])
        self.assertIs(BIG - 1 in column, True)

    def test_the_name_stays_bound_to_a_column_of_the_same_list(self):
        board = Board.of({"a": ["x", "y"], "b": ["z"]})
        columns = {"a": board.column(lst="a")}
        columns["a"] += 1
        columns["a"] -= 2
        self.assertEqual(len(columns["a"]), 2)
        self.assertIs(0 in columns["a"], True)

    def test_made_straight(self):
        board = Board.of({"a": ["x", "y"], "b": ["z"]})
        column = Column(board=board, lst="b")
        column += 1
        self.assertEqual(board.at("z"), ("b", 2))
        other = Column(board, "a")
        other -= 1
        self.assertEqual(board.places_of("a"), [0, 1])

    def test_len_and_in(self):
        board = board_with(("a", 2, "x"), ("a", 2, "y"), ("a", 0, "v"), ("a", 1, "w"), ("b", 7, "z"))
        column = board.column("a")
        self.assertEqual(len(column), 4)
        for place in (0, 1, 2):
            self.assertIs(place in column, True)
        for thing in [*NO_INTEGERS, 3, 7, -1, BIG, "x"]:
            self.assertIs(thing in column, False)

    def test_a_column_shows_what_the_board_holds_now(self):
        board = Board.of({"a": ["x", "y"], "b": ["z"]})
        column = board.column("a")
        board["a", 9] = "z"
        self.assertEqual(len(column), 3)
        self.assertIs(9 in column, True)
        board.drop("x")
        board["b", 1] = "y"
        self.assertEqual(len(column), 1)
        self.assertIs(1 in column, False)
        column += 1
        self.assertEqual(rows_on(board), {"y": ("b", 1), "z": ("a", 10)})
        other = board.column("a")
        other -= 4
        self.assertIs(6 in column, True)

    def test_a_column_of_a_list_without_rows(self):
        board = Board.of({"a": ["x"]})
        column = board.column("b")
        self.assertEqual(len(column), 0)
        self.assertIs(1 in column, False)
        column += 5
        column -= 1
        self.assertEqual(rows_on(board), {"x": ("a", 1)})
        self.assertEqual(board.list_names(), ["a"])
        board["b", 3] = "x"
        self.assertEqual(len(column), 1)
        self.assertIs(3 in column, True)

    def test_wrong_kinds_change_nothing(self):
        board = Board.of({"a": ["x"]})
        for thing in (None, "1", [1]):
            column = board.column("a")
            with self.assertRaises(TypeError):
                column += thing
            with self.assertRaises(TypeError):
                column -= thing
        self.assertEqual(rows_on(board), {"x": ("a", 1)})
