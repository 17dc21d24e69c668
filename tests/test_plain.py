import itertools
import unittest

from rowsinplace import plain
from rowsinplace.errors import BadCall, BadOperation
from rowsinplace.plain import OPERATIONS, apply, arguments_of
from odd_objects import BIG, NESTED, NO_INTEGERS, NO_NAMES

ARGUMENTS = {
    "put": ("x", "to", "k"), "add": ("x", "to"), "take": ("x",), "move": ("x", "to", "k"), "send": ("x", "to"),
    "top": ("x",), "bottom": ("x",), "up": ("x",), "down": ("x",), "swap": ("x", "y"),
}
LISTS = {"p": ["a", "b", "c"], "q": ["d"], "e": []}


def fitting(op):
    """Arguments of a call that is allowed on LISTS."""
    worths = {"x": "n" if op in ("put", "add") else "b", "y": "d", "to": "q", "k": 1}
    return {name: worths[name] for name in ARGUMENTS[op]}


def all_boards():
    """All plain boards with up to three rows in up to two lists, and an empty list."""
    for many in range(4):
        for rows in itertools.permutations("abc"[:many]):
            for cut in range(many + 1):
                yield {"p": list(rows[:cut]), "q": list(rows[cut:]), "e": []}


class Operations(unittest.TestCase):
    def test_the_names(self):
        self.assertEqual(
            OPERATIONS, ("put", "add", "take", "move", "send", "top", "bottom", "up", "down", "swap"))
        self.assertIs(type(OPERATIONS), tuple)

    def test_arguments_of(self):
        for op in OPERATIONS:
            self.assertEqual(arguments_of(op), ARGUMENTS[op])
            self.assertIs(type(arguments_of(op=op)), tuple)

    def test_no_operation(self):
        for thing in NO_NAMES + ["puts", "Put", "put ", " put", "pu", "swapswap", ["put"], ("put",), OPERATIONS]:
            for call in (lambda: arguments_of(thing), lambda: apply({}, thing), lambda: apply(LISTS, thing, x=0)):
                with self.assertRaises(BadOperation) as caught:
                    call()
                self.assertEqual(caught.exception.op, thing)

    def test_the_functions_stand_in_the_module(self):
        self.assertEqual(apply.__module__, "rowsinplace.plain")
        self.assertEqual(arguments_of.__module__, "rowsinplace.plain")
        self.assertIs(vars(plain)["apply"], apply)

    def test_arguments_of_apply_are_passed_by_name(self):
        with self.assertRaises(TypeError):
            apply(LISTS, "take", "a")


class Applied(unittest.TestCase):
    def behind(self, op, **arguments):
        return apply(LISTS, op, **arguments)

    def test_put(self):
        self.assertEqual(self.behind("put", x="n", to="p", k=1), {"p": ["n", "a", "b", "c"], "q": ["d"], "e": []})
        self.assertEqual(self.behind("put", x="n", to="p", k=2), {"p": ["a", "n", "b", "c"], "q": ["d"], "e": []})
        self.assertEqual(self.behind("put", x="n", to="p", k=4), {"p": ["a", "b", "c", "n"], "q": ["d"], "e": []})
        self.assertEqual(self.behind("put", x="n", to="e", k=1), {"p": ["a", "b", "c"], "q": ["d"], "e": ["n"]})
        self.assertEqual(
            self.behind("put", x="n", to="new", k=1), {"p": ["a", "b", "c"], "q": ["d"], "e": [], "new": ["n"]})
        self.assertEqual(apply({}, "put", x="n", to="p", k=1), {"p": ["n"]})

    def test_add(self):
        self.assertEqual(self.behind("add", x="n", to="p"), {"p": ["a", "b", "c", "n"], "q": ["d"], "e": []})
        self.assertEqual(self.behind("add", x="n", to="e"), {"p": ["a", "b", "c"], "q": ["d"], "e": ["n"]})
        self.assertEqual(apply({}, "add", x="n", to="n"), {"n": ["n"]})

    def test_take(self):
        self.assertEqual(self.behind("take", x="a"), {"p": ["b", "c"], "q": ["d"], "e": []})
        self.assertEqual(self.behind("take", x="c"), {"p": ["a", "b"], "q": ["d"], "e": []})
        self.assertEqual(self.behind("take", x="d"), {"p": ["a", "b", "c"], "q": [], "e": []})

    def test_move(self):
        self.assertEqual(self.behind("move", x="a", to="q", k=1), {"p": ["b", "c"], "q": ["a", "d"], "e": []})
        self.assertEqual(self.behind("move", x="a", to="q", k=2), {"p": ["b", "c"], "q": ["d", "a"], "e": []})
        self.assertEqual(self.behind("move", x="d", to="p", k=4), {"p": ["a", "b", "c", "d"], "q": [], "e": []})
        self.assertEqual(self.behind("move", x="a", to="p", k=3), {"p": ["b", "c", "a"], "q": ["d"], "e": []})
        self.assertEqual(self.behind("move", x="c", to="p", k=1), {"p": ["c", "a", "b"], "q": ["d"], "e": []})
        self.assertEqual(self.behind("move", x="b", to="p", k=2), {"p": ["a", "b", "c"], "q": ["d"], "e": []})
        self.assertEqual(
            self.behind("move", x="d", to="new", k=1), {"p": ["a", "b", "c"], "q": [], "e": [], "new": ["d"]})

    def test_send(self):
        self.assertEqual(self.behind("send", x="a", to="q"), {"p": ["b", "c"], "q": ["d", "a"], "e": []})
        self.assertEqual(self.behind("send", x="a", to="p"), {"p": ["b", "c", "a"], "q": ["d"], "e": []})
        self.assertEqual(self.behind("send", x="c", to="p"), {"p": ["a", "b", "c"], "q": ["d"], "e": []})
        self.assertEqual(
            self.behind("send", x="d", to="z"), {"p": ["a", "b", "c"], "q": [], "e": [], "z": ["d"]})

    def test_top_bottom_up_and_down(self):
        behind = {
            "top": {"a": "abc", "b": "bac", "c": "cab"}, "bottom": {"a": "bca", "b": "acb", "c": "abc"},
            "up": {"a": "abc", "b": "bac", "c": "acb"}, "down": {"a": "bac", "b": "acb", "c": "abc"},
        }
        for op, found in behind.items():
            for row, order in found.items():
                self.assertEqual(self.behind(op, x=row), {"p": list(order), "q": ["d"], "e": []}, (op, row))
            self.assertEqual(self.behind(op, x="d"), LISTS)

    def test_swap(self):
        self.assertEqual(self.behind("swap", x="a", y="c"), {"p": ["c", "b", "a"], "q": ["d"], "e": []})
        self.assertEqual(self.behind("swap", x="c", y="b"), {"p": ["a", "c", "b"], "q": ["d"], "e": []})
        self.assertEqual(self.behind("swap", x="a", y="d"), {"p": ["d", "b", "c"], "q": ["a"], "e": []})
        self.assertEqual(self.behind("swap", x="d", y="c"), {"p": ["a", "b", "d"], "q": ["c"], "e": []})
        self.assertEqual(self.behind("swap", x="b", y="b"), LISTS)

    def test_what_is_returned_is_new_and_what_was_passed_stays(self):
        for op in OPERATIONS:
            lists = {lst: list(rows) for lst, rows in LISTS.items()}
            behind = apply(lists, op, **fitting(op))
            self.assertEqual(lists, LISTS)
            self.assertIsNot(behind, lists)
            for rows in behind.values():
                self.assertIs(type(rows), list)
                self.assertTrue(all(rows is not other for other in lists.values()))
                rows.append("extra")
            self.assertEqual(lists, LISTS)

    def test_no_list_is_shared_also_where_nothing_changes(self):
        lists = {"p": ["a"]}
        for op, arguments in (("up", {"x": "a"}), ("swap", {"x": "a", "y": "a"}), ("send", {"x": "a", "to": "p"})):
            behind = apply(lists, op, **arguments)
            self.assertEqual(behind, lists)
            self.assertIsNot(behind["p"], lists["p"])


class Allowed(unittest.TestCase):
    def assertBad(self, argument, lists, op, **arguments):
        with self.assertRaises(BadCall) as caught:
            apply(lists, op, **arguments)
        self.assertEqual(caught.exception.argument, argument, (op, arguments))

    def test_any_object_in_each_place(self):
        for op in OPERATIONS:
            good = fitting(op)
            apply(LISTS, op, **good)
            for name in ("x", "y", "to", "k"):
                things = list(NO_INTEGERS if name == "k" else NO_NAMES) + [["b"], ("q",), NESTED, 1.0]
                for thing in things:
                    if name not in good and thing is None:
                        continue
                    if name in good and thing == good[name] and type(thing) is type(good[name]):
                        continue
                    self.assertBad(name, LISTS, op, **{**good, name: thing})

    def test_an_argument_that_the_operation_does_not_have(self):
        for op in OPERATIONS:
            for name, thing in (("x", "b"), ("y", "d"), ("to", "q"), ("k", 1)):
                if name not in ARGUMENTS[op]:
                    self.assertBad(name, LISTS, op, **{**fitting(op), name: thing})

    def test_an_argument_that_is_left_out(self):
        for op in OPERATIONS:
            for name in ARGUMENTS[op]:
                self.assertBad(name, LISTS, op, **{key: worth for key, worth in fitting(op).items() if key != name})

    def test_the_first_one_is_named(self):
        self.assertBad("x", LISTS, "put", x="a", y="b", to="", k=0)
        self.assertBad("y", LISTS, "put", x="n", y="b", to="", k=0)
        self.assertBad("to", LISTS, "put", x="n", to="", k=0)
        self.assertBad("k", LISTS, "put", x="n", to="p", k=0)
        self.assertBad("x", LISTS, "take", y="b", to="p", k=1)
        self.assertBad("y", LISTS, "take", x="a", y="b", to="p", k=1)
        self.assertBad("to", LISTS, "take", x="a", to="p", k=1)
        self.assertBad("k", LISTS, "take", x="a", k=1)
        self.assertBad("x", LISTS, "swap", x="z", y="z", to="p", k=1)
        self.assertBad("y", LISTS, "swap", x="a", y="z", to="p", k=1)
        self.assertBad("to", LISTS, "swap", x="a", y="a", to="p", k=1)

    def test_rows_that_are_there_and_not(self):
        for op in OPERATIONS:
            self.assertBad("x", LISTS, op, **{**fitting(op), "x": "d" if op in ("put", "add") else "n"})
        self.assertBad("y", LISTS, "swap", x="a", y="n")
        # A list's name is no row's name, and a row may be called like a list.
        self.assertBad("x", LISTS, "take", x="p")
        self.assertEqual(apply({"p": ["p"]}, "put", x="q", to="q", k=1), {"p": ["p"], "q": ["q"]})

    def test_names_of_up_to_eight_letters(self):
        self.assertEqual(apply({}, "add", x="abcdefgh", to="zzzzzzzz"), {"zzzzzzzz": ["abcdefgh"]})
        self.assertBad("x", {}, "add", x="abcdefghi", to="a")
        self.assertBad("to", {}, "add", x="a", to="abcdefghi")

    def test_the_range_of_k(self):
        for lists in all_boards():
            for op in ("put", "move"):
                for x in (["n"] if op == "put" else [row for rows in lists.values() for row in rows]):
                    for to in ("p", "q", "e", "new"):
                        last = len([row for row in lists.get(to, []) if row != x]) + 1
                        for k in (0, last + 1, -1, BIG, -BIG):
                            self.assertBad("k", lists, op, x=x, to=to, k=k)
                        for k in range(1, last + 1):
                            self.assertEqual(apply(lists, op, x=x, to=to, k=k)[to][k - 1], x)

    def test_bad_operation_ahead_of_bad_call(self):
        with self.assertRaises(BadOperation):
            apply(LISTS, "none", x=1, y=2, to=3, k=4)


if __name__ == "__main__":
    unittest.main()
