"""What the interface lists: where names are defined, and how they are called."""
import importlib
import inspect
import unittest

from odd_objects import NO_NAMES
from rowsinplace import errors
from rowsinplace.boards import Board
from rowsinplace.bounds import Bounds
from rowsinplace.clashing import clash
from rowsinplace.desk import Desk
from rowsinplace.handlers import Handler, pattern
from rowsinplace.mends import fewest_mends, mended, mends_of
from rowsinplace.papers import is_paper, paper, standing
from rowsinplace.plain import OPERATIONS, apply
from rowsinplace.rules import keeps, strongest
from rowsinplace.scenes import Scene, slides
from rowsinplace.slides import Slide
from rowsinplace.steps import read_step
from rowsinplace.tables import table
from rowsinplace.undoing import undoes
from rowsinplace.verdicts import alike, dense, right
from rowsinplace.weaves import safe_orders, weave

# The functions and classes of each module, with their parameters, and the methods of the classes.
FUNCTIONS = {
    "plain": {"arguments_of": "(op)", "apply": "(lists, op, *, x=None, y=None, to=None, k=None)"},
    "steps": {"read_step": "(line)"},
    "handlers": {"pattern": "(op)"},
    "scenes": {"worlds_of": "(op)", "scenes": "(op, total)", "fate": "(handler, scene, spot)", "due": "(scene, spot)",
               "slides": "(handler, scene)"},
    "bounds": {"opposite": "(bound)", "is_ring": "(thing)"},
    "tables": {"kinds_of": "(op, world)", "numbers_of": "(op, world, kind)", "table": "(handler, world, kind)"},
    "verdicts": {"right": "(handler)", "alike": "(first, second)", "dense": "(handler)"},
    "papers": {"standing": "(op, world, kind)", "paper": "(first, second, world, kind)", "is_paper": "(first, second, world, kind, thing)"},
    "clashing": {"clash": "(handler, visit)"},
    "weaves": {"orders": "(first, second)", "woven": "(board, order, first, arguments, second, other_arguments)",
               "weave": "(first, second, order, *, same=False)", "safe_orders": "(first, second, *, same=False)"},
    "undoing": {"undoes": "(first, second)"},
    "rules": {"keeps": "(handler, rule)", "strongest": "(*handlers)"},
    "mends": {"mends_of": "(handler)", "mended": "(handler, mend)", "fewest_mends": "(handler)"},
}
CLASSES = {
    "slides": {"Slide": ("(*pieces)", {
        "__call__": "(self, p)", "__rshift__": None, "__add__": None, "__radd__": None, "__eq__": None, "__abs__": None, "__len__": None,
        "__bool__": None, "__contains__": None, "__iter__": None, "first_fault": "(self, count)", "inverse": "(self)"})},
    "boards": {
        "Board": ("()", {
            "of": "(cls, lists)", "__setitem__": None, "__getitem__": None, "__contains__": None, "__len__": None, "__iter__": None,
            "at": "(self, row)", "drop": "(self, row)", "rows_of": "(self, lst)", "places_of": "(self, lst)", "list_names": "(self)",
            "copy": "(self)", "first_fault": "(self)", "is_dense": property, "is_unlike": property, "show": "(self)",
            "column": "(self, lst)"}),
        "Column": ("(board, lst)", {"__iadd__": None, "__isub__": None, "__len__": None, "__contains__": None})},
    "steps": {
        "Step": ("(guard, text)", {"reads": "(self)"}),
        "Shift": ("(guard, text, target, by, conditions, spared)", {"reads": "(self)"}),
        "Write": ("(guard, text, row, target, term)", {"reads": "(self)"}), "Drop": ("(guard, text, row)", {"reads": "(self)"})},
    "handlers": {"Handler": ("(op, *lines)", {
        "read": "(cls, text)", "comparisons": property, "has_row": property, "__eq__": None,
        "__call__": "(self, board, x=None, y=None, to=None, k=None, visit=None)"})},
    "scenes": {"Scene": ("(op, world, *, home=0, to=0, x=0, y=0, k=0, other=0)", {
        "total": property, "key": property, "__eq__": None, "spots": "(self)", "as_board": "(self)", "arguments": "(self)",
        "name_of": "(self, spot)"})},
    "bounds": {"Bounds": ("(*bounds)", {"least": "(self)", "ring": "(self)", "__contains__": None, "__add__": None, "__len__": None})},
    "verdicts": {"Verdict": ("(scene, fault)", {"holds": property, "__bool__": None})},
    "weaves": {"Woven": ("(numbers, fault)", {"holds": property, "__bool__": None})},
    "rules": {"Kept": ("(handler, world, lists, numbers)", {"holds": property, "__bool__": None})},
    "desk": {"Desk": ("(board, visit=None)", {
        "__setitem__": None, "__getitem__": None, "__contains__": None, "__len__": None, "__iter__": None, "done": property,
        "call": "(self, name, **arguments)", "run": "(self, calls)", "renumber": "(self, lst)"})},
}
ERRORS = {
    "NoRow": "row", "NoPlace": "lst place", "NoHandler": "name", "BadName": "name", "BadPlace": "place", "BadSlide": "index",
    "NoInverse": "slide", "Twice": "row", "BadOperation": "op", "BadCall": "argument", "BadVisit": "visit", "BadLine": "line",
    "BadStep": "index", "BadText": "index", "BadWorld": "world", "BadNumber": "name", "BadSpot": "spot", "BadBound": "index",
    "BadKind": "kind", "OtherOperation": "op", "BadOrder": "order", "BadPair": "first second", "BadRule": "rule", "BadMend": "mend",
    "TooMany": "limit", "Clash": "step row other", "CallFailed": "index reason",
}


def module_of(name):
    return importlib.import_module(f"rowsinplace.{name}")


class Interface(unittest.TestCase):
    def test_functions(self):
        for name, functions in FUNCTIONS.items():
            for function, parameters in functions.items():
                found = getattr(module_of(name), function)
                self.assertEqual(found.__module__, f"rowsinplace.{name}", function)
                self.assertEqual(str(inspect.signature(found)), parameters, function)

    def test_classes_and_their_methods(self):
        for name, classes in CLASSES.items():
            for kind, (parameters, methods) in classes.items():
                found = getattr(module_of(name), kind)
                self.assertEqual(found.__module__, f"rowsinplace.{name}", kind)
                self.assertEqual(str(inspect.signature(found)), parameters, kind)
                for method, expected in methods.items():
                    self.assertIn(method, vars(found), kind)
                    one = vars(found)[method]
                    if expected is property:
                        self.assertIs(type(one), property)
                    elif expected is not None:
                        self.assertEqual(str(inspect.signature(getattr(one, "__func__", one))), expected, (kind, method))

    def test_errors(self):
        for name, attributes in ERRORS.items():
            found = getattr(errors, name)
            base = errors.MissingError if name.startswith("No") and name != "NoInverse" else errors.PlaceError
            self.assertEqual(found.__bases__, (base,), name)
            self.assertEqual(list(inspect.signature(found).parameters), attributes.split(" "), name)
            for thing in NO_NAMES:
                named = {attribute: thing for attribute in attributes.split(" ")}
                self.assertEqual(vars(found(**named)), named)
                self.assertEqual(vars(found(*named.values())), named)
        self.assertEqual((errors.PlaceError.__bases__, errors.MissingError.__bases__), ((ValueError,), (LookupError,)))

    def test_values(self):
        self.assertEqual(module_of("plain").OPERATIONS, OPERATIONS)
        self.assertEqual(len(OPERATIONS), 10)
        self.assertEqual(module_of("scenes").WORLDS, ("alone", "apart", "within", "itself"))
        self.assertEqual(Handler.MOST, 6)


class Conventions(unittest.TestCase):
    def test_what_can_be_equal_equals_nothing_of_another_class(self):
        things = [Slide((1, 2, 3)), pattern("put"), Scene("add", "alone"), Slide(), Handler("take"), Scene("take", "alone", home=1, x=1)]
        others = NO_NAMES + [((1, 2, 3),), "handler take", (0, 0, 0, 0, 0, 0, 0), pattern("put").text, Bounds(), Board(), Desk(Board())]
        for thing in things:
            self.assertTrue(thing == thing)
            for other in [one for one in things if one is not thing] + others:
                self.assertIs(thing == other, False)
                self.assertIs(other == thing, False)
                self.assertIs(thing != other, True)

    def test_every_list_and_dict_that_is_returned_is_new(self):
        move, wrong = pattern("move"), Handler("top", "write x home 1")
        board, scene, add = Board.of({"todo": ["a", "b"]}), Scene("move", "apart", home=1, x=1, k=1), Handler("add", "write x to old count to + 1")
        lists = {"todo": ["a", "b"]}
        for call in (
            lambda: board.rows_of("todo"), lambda: board.places_of("todo"), lambda: board.list_names(), lambda: read_step("write x to k").reads(),
            lambda: scene.arguments(), lambda: slides(move, scene), lambda: Bounds(("a", "b", -1)).least(), lambda: Bounds(("a", "zero", -1)).ring(),
            lambda: table(move, "apart", "to"), lambda: standing("move", "apart", "to"), lambda: paper(move, move, "apart", "to"),
            lambda: weave(add, add, "abab").numbers, lambda: safe_orders(add, add), lambda: keeps(wrong, "unlike").lists,
            lambda: keeps(wrong, "dense").numbers, lambda: mends_of(move), lambda: fewest_mends(Handler("add", "write x to count to")), lambda: apply(lists, "top", x="b"),
            lambda: apply(lists, "top", x="b")["todo"],
        ):
            found, again = call(), call()
            self.assertIsNot(found, again)
            self.assertIn(type(found), (list, dict))
            found.clear()
            self.assertEqual(call(), again)
        self.assertEqual(lists, {"todo": ["a", "b"]})

    def test_what_was_passed_may_be_changed_later(self):
        lists = {"todo": ["a", "b"]}
        board, plain = Board.of(lists), apply(lists, "bottom", x="a")
        lists["todo"].clear()
        self.assertEqual((board.rows_of("todo"), plain), (["a", "b"], {"todo": ["b", "a"]}))
        nodes = paper(pattern("take"), pattern("take"), "alone", "home")
        kept = list(nodes)
        self.assertTrue(is_paper(pattern("take"), pattern("take"), "alone", "home", nodes))
        self.assertEqual(nodes, kept)

    def test_results_depend_on_the_arguments_alone(self):
        wrong = Handler("put", "shift to by 1 where place > k", "write x to k")
        for ask in (right, dense, lambda one: alike(one, pattern("put")), lambda one: clash(one, "up"), lambda one: undoes(one, Handler("take"))):
            first = ask(wrong)
            pattern("put")(Board(), x="a", to="todo", k=1)
            second = ask(Handler("put", *wrong.text.split("\n")[1:]))
            self.assertEqual((first.scene.key, first.fault), (second.scene.key, second.fault))

    def test_for_each_question_one_handler_for_which_it_holds_and_one_for_which_it_does_not(self):
        put, take = pattern("put"), pattern("take")
        wrong = Handler("put", "shift to by 1 where place > k", "write x to k")
        for holds, fails in (
            (right(put), right(wrong)), (dense(put), dense(wrong)), (alike(put, put), alike(put, wrong)),
            (clash(put, "down"), clash(put, "up")), (clash(Handler("add", "write x to count to + 1"), "any"), clash(wrong, "any")),
            (undoes(put, take), undoes(put, Handler("take", "drop x"))), (undoes(take, put), undoes(take, wrong)),
            (keeps(put, "dense"), keeps(wrong, "dense")), (keeps(put, "unlike"), keeps(wrong, "unlike")),
            (weave(put, put, "aaabbb"), weave(put, put, "ababab")),
        ):
            self.assertEqual((holds.holds, bool(holds), fails.holds, bool(fails)), (True, True, False, False))
        self.assertEqual((strongest(put), strongest(put, Handler("take", "drop x")), strongest(wrong)), ("dense", "unlike", "none"))
        self.assertEqual((fewest_mends(put), fewest_mends(wrong), fewest_mends(Handler("take"))), ([], [("bound", 0, 0)], None))
        self.assertEqual(mended(wrong, ("bound", 0, 0)).text, "handler put\nshift to by 1 where place >= k\nwrite x to k")


if __name__ == "__main__":
    unittest.main()
