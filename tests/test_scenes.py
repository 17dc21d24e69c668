import itertools
import random
import types
import unittest

import reference
import reference_scenes
from lines import Drawn
from odd_objects import BIG, NESTED, NO_INTEGERS, NO_NAMES
from rowsinplace import scenes as module
from rowsinplace.boards import Board
from rowsinplace.errors import BadNumber, BadOperation, BadSpot, BadWorld, OtherOperation, TooMany
from rowsinplace.handlers import Handler, pattern
from rowsinplace.plain import OPERATIONS, apply
from rowsinplace.scenes import WORLDS, Scene, due, fate, scenes, slides, worlds_of
from rowsinplace.slides import Slide

NUMBERS = ("home", "to", "x", "y", "k", "other")
NO_SPOTS = [
    None, True, False, 0, 1, BIG, "", "home", "new", [], (), ("home",), ("home", 1, 1), ["home", 1], ["new", 0], ("home", "1"),
    ("home", None), ("home", True), ("new", False), ("home", 0), ("home", -1), ("none", 1), ("x", 1), (1, 1), (None, 1),
    (("home",), 1), (["home"], 1), (True, 1), ("home", [1]), ("home", BIG + 1), ("new", 1), ("new", -1), NESTED,
]


def small_scenes(op, most=4):
    return [scene for total in range(most + 1) for scene in scenes(op, total)]


def good_numbers(op, world):
    """Numbers of a scene in the middle of the ranges."""
    found = {"other": 4}
    if op not in ("put", "add"):
        found.update(home=5, x=3)
    if op in ("put", "add") or world == "apart":
        found["to"] = 4
    if op == "swap" and world != "itself":
        found["y"] = 4
    if op in ("put", "move"):
        found["k"] = 2
    return found


def worlds():
    return [(op, world) for op in OPERATIONS for world in worlds_of(op)]


class Names(unittest.TestCase):
    def test_the_names_stand_in_the_module(self):
        self.assertEqual(WORLDS, ("alone", "apart", "within", "itself"))
        for name in ("worlds_of", "scenes", "fate", "due", "slides", "Scene"):
            self.assertEqual(vars(module)[name].__module__, "rowsinplace.scenes")
        for name in ("__init__", "total", "key", "__eq__", "spots", "as_board", "arguments", "name_of"):
            self.assertIn(name, vars(Scene))

    def test_worlds_of(self):
        for op in OPERATIONS:
            self.assertEqual(worlds_of(op=op), reference_scenes.OF[op])
            self.assertIs(type(worlds_of(op)), tuple)
        for thing in NO_NAMES + [["put"], ("put",), "puts", "alone"]:
            with self.assertRaises(BadOperation) as caught:
                worlds_of(thing)
            self.assertEqual(caught.exception.op, thing)


class Making(unittest.TestCase):
    def assertNumber(self, name, op, world, numbers):
        with self.assertRaises(BadNumber) as caught:
            Scene(op, world, **numbers)
        self.assertEqual(caught.exception.name, name, (op, world, numbers))

    def test_attributes_total_and_key(self):
        for op, world in worlds():
            numbers = good_numbers(op, world)
            scene = Scene(op, world, **numbers)
            self.assertEqual((scene.op, scene.world), (op, world))
            for name in NUMBERS:
                self.assertEqual(getattr(scene, name), numbers.get(name, 0))
            total = sum(numbers.get(name, 0) for name in ("home", "to", "other"))
            self.assertEqual(scene.total, total)
            self.assertEqual(
                scene.key, (total, WORLDS.index(world), *[numbers.get(name, 0) for name in ("home", "to", "x", "y", "k")]))
        scene = Scene(op="take", world="alone", home=3, x=2, y=0, k=0, to=0, other=1)
        self.assertEqual(scene.key, (4, 0, 3, 0, 2, 0, 0))

    def test_bad_operation_then_bad_world_then_bad_number(self):
        for thing in NO_NAMES + ["puts", ["put"]]:
            with self.assertRaises(BadOperation) as caught:
                Scene(thing, thing, home=thing)
            self.assertEqual(caught.exception.op, thing)
        for op in OPERATIONS:
            for thing in NO_NAMES + [world for world in WORLDS if world not in worlds_of(op)] + [["alone"], "Alone", 0]:
                with self.assertRaises(BadWorld) as caught:
                    Scene(op, thing, home=thing, other=-1)
                self.assertEqual(caught.exception.world, thing)

    def test_any_object_as_a_number(self):
        for op, world in worlds():
            numbers = good_numbers(op, world)
            for name in NUMBERS:
                for thing in NO_INTEGERS + [-1, -BIG, BIG + 1, NESTED]:
                    self.assertNumber(name, op, world, {**numbers, name: thing})
                    later = {other: thing for other in NUMBERS[NUMBERS.index(name):]}
                    self.assertNumber(name, op, world, {**numbers, **later})

    def test_numbers_one_below_and_one_above(self):
        for op, world in worlds():
            for numbers in (good_numbers(op, world), {"home": 2, "x": 2, "y": 1}, {"home": 1, "x": 1}, {"to": 1, "k": 2},
                            {"home": 2, "to": 1, "x": 1, "y": 1, "k": 2}, {"home": 1, "x": 1, "k": 1}, {}, {"home": 2, "x": 1}):
                for name, worth in itertools.product(NUMBERS, range(8)):
                    changed = {**numbers, name: worth}
                    six = [changed.get(other, 0) for other in ("home", "to", "x", "y", "k")]
                    if reference_scenes.fits(op, world, *six):
                        self.assertEqual(Scene(op, world, **changed).key[2:], tuple(six))
                    else:
                        with self.assertRaises(BadNumber):
                            Scene(op, world, **changed)

    def test_the_first_number_that_does_not_fit(self):
        self.assertNumber("home", "take", "alone", {"home": 0, "to": 1, "x": 0, "y": 1, "k": 1, "other": -1})
        self.assertNumber("to", "take", "alone", {"home": 1, "to": 1, "x": 0, "y": 1, "k": 1, "other": -1})
        self.assertNumber("x", "take", "alone", {"home": 1, "x": 0, "y": 1, "k": 1, "other": -1})
        self.assertNumber("y", "take", "alone", {"home": 1, "x": 1, "y": 1, "k": 1, "other": -1})
        self.assertNumber("k", "take", "alone", {"home": 1, "x": 1, "k": 1, "other": -1})
        self.assertNumber("other", "take", "alone", {"home": 1, "x": 1, "other": -1})
        self.assertNumber("home", "swap", "within", {"home": 1, "x": 1, "y": 1})
        self.assertNumber("y", "swap", "within", {"home": 2, "x": 1, "y": 1})
        self.assertNumber("to", "swap", "apart", {"home": 1, "x": 1, "y": 1})
        self.assertNumber("home", "put", "alone", {"home": 1, "to": 1, "k": 1})
        self.assertNumber("x", "put", "alone", {"to": 1, "x": 1, "k": 1})
        for op, world in worlds():
            if op not in ("add",):
                self.assertNumber("k" if op == "put" else "home", op, world, {})
        self.assertEqual(Scene("add", "alone").key, (0, 0, 0, 0, 0, 0, 0))

    def test_great_numbers(self):
        for op, world in worlds():
            numbers = good_numbers(op, world)
            for name in numbers:
                if name in ("home", "to", "other"):
                    self.assertEqual(getattr(Scene(op, world, **{**numbers, name: BIG}), name), BIG)
                    self.assertNumber(name, op, world, {**numbers, name: BIG + 1})
        self.assertEqual(Scene("put", "alone", to=BIG, k=BIG).k, BIG)
        self.assertNumber("k", "put", "alone", {"to": BIG, "k": BIG + 1})
        self.assertNumber("k", "move", "apart", {"home": 1, "x": 1, "to": BIG, "k": BIG + 1})
        self.assertEqual(Scene("put", "alone", to=BIG - 1, k=BIG).k, BIG)
        self.assertEqual(Scene("move", "within", home=BIG, x=BIG, k=BIG).total, BIG)
        self.assertNumber("k", "move", "within", {"home": 5, "x": 1, "k": 6})

    def test_equal(self):
        scene = Scene("move", "within", home=3, x=2, k=1)
        self.assertEqual(scene, Scene("move", "within", home=3, x=2, k=1))
        for other in (Scene("move", "within", home=3, x=2, k=2), Scene("move", "within", home=3, x=2, k=1, other=1),
                      Scene("move", "apart", home=3, x=2, k=1), scene.key, None, 1, "move"):
            self.assertFalse(scene == other)
            self.assertTrue(scene != other)
        self.assertNotEqual(Scene("top", "alone", home=1, x=1), Scene("take", "alone", home=1, x=1))
        whole = small_scenes("swap", 3)
        for at, other in itertools.product(range(len(whole)), repeat=2):
            self.assertIs(whole[at] == whole[other], at == other)


class AllScenes(unittest.TestCase):
    def test_held_against_loops(self):
        for op in OPERATIONS:
            for total in range(5):
                found = list(scenes(op, total))
                self.assertEqual([scene.key for scene in found], reference_scenes.keys(op, total))
                for scene in found:
                    self.assertIs(type(scene), Scene)
                    self.assertEqual(scene.op, op)
                    self.assertEqual(scene.other, reference_scenes.numbers_of(scene.key)["other"])

    def test_a_generator(self):
        self.assertIsInstance(scenes(op="put", total=12), types.GeneratorType)
        self.assertEqual(next(scenes("put", 12)).key, (12, 0, 0, 0, 0, 0, 1))
        found = [scene.key for scene in scenes("take", 12)]
        self.assertEqual(found, sorted(found))
        self.assertEqual(len(found), sum(range(1, 13)))
        self.assertEqual(list(scenes("take", 0)), [])

    def test_bad_operation_as_the_iteration_begins(self):
        for thing in NO_NAMES + ["puts", ["put"]]:
            whole = scenes(thing, 1)
            with self.assertRaises(BadOperation) as caught:
                next(whole)
            self.assertEqual(caught.exception.op, thing)


class Spots(unittest.TestCase):
    def test_in_their_order(self):
        for op in OPERATIONS:
            for scene in small_scenes(op):
                found = list(scene.spots())
                self.assertEqual(found, reference_scenes.spots(op, scene.key))
                self.assertEqual(len(found), scene.total + (op in ("put", "add")))

    def test_each_when_it_is_asked_for(self):
        scene = Scene("swap", "apart", home=BIG, to=BIG, x=7, y=BIG, other=BIG)
        self.assertIsInstance(scene.spots(), types.GeneratorType)
        self.assertEqual(list(itertools.islice(scene.spots(), 3)), [("home", 1), ("home", 2), ("home", 3)])
        scene = Scene("put", "alone", to=BIG, k=1)
        self.assertEqual(list(itertools.islice(scene.spots(), 3)), [("new", 0), ("to", 1), ("to", 2)])

    def test_boards_names_and_arguments(self):
        for op in OPERATIONS:
            for scene in small_scenes(op):
                board = scene.as_board()
                self.assertIs(type(board), Board)
                self.assertEqual({row: board.at(row) for row in board}, reference_scenes.rows(op, scene.key))
                self.assertIs(board.is_dense, True)
                for spot in scene.spots():
                    self.assertEqual(scene.name_of(spot=spot), reference_scenes.name(op, scene.key, spot))
                self.assertEqual(scene.arguments(), reference_scenes.arguments(op, scene.key))
                self.assertIsNone(Handler(op)(board, **scene.arguments()))

    def test_arguments_is_a_new_dict(self):
        scene = Scene("move", "apart", home=1, x=1, k=1)
        self.assertEqual(scene.arguments(), {"x": "x", "to": "to", "k": 1})
        scene.arguments()["x"] = "z"
        self.assertEqual(scene.arguments(), {"x": "x", "to": "to", "k": 1})

    def test_names_by_two_letters(self):
        scene = Scene("swap", "apart", home=700, to=700, x=1, y=2, other=700)
        for spot, row in ((("home", 1), "x"), (("to", 2), "y"), (("to", 1), "taa"), (("home", 2), "hab"), (("home", 3), "hac"),
                          (("other", 26), "oaz"), (("other", 27), "oba"), (("home", 676), "hzz"), (("home", 52), "hbz")):
            self.assertEqual(scene.name_of(spot), row)
        scene = Scene("swap", "itself", home=3, x=2)
        self.assertEqual([scene.name_of(spot) for spot in scene.spots()], ["haa", "x", "hac"])
        self.assertEqual(Scene("add", "alone").name_of(("new", 0)), "x")

    def test_boards_of_up_to_a_hundred_rows(self):
        self.assertEqual(len(Scene("swap", "apart", home=50, to=30, x=1, y=2, other=20).as_board()), 100)
        self.assertEqual(len(Scene("add", "alone", to=100).as_board()), 100)
        for scene in (Scene("add", "alone", to=101), Scene("take", "alone", home=1, x=1, other=BIG),
                      Scene("swap", "apart", home=50, to=31, x=1, y=2, other=20)):
            with self.assertRaises(TooMany) as caught:
                scene.as_board()
            self.assertEqual(caught.exception.limit, 100)

    def test_what_is_no_spot(self):
        for op in OPERATIONS:
            for scene in small_scenes(op, 2):
                there = reference_scenes.spots(op, scene.key)
                beyond = [(lst, place) for lst in ("home", "to", "other", "new") for place in range(-1, 4)]
                for thing in NO_SPOTS + beyond:
                    if thing in there and type(thing[1]) is int and type(thing) is tuple:
                        continue
                    for call in (lambda: scene.name_of(thing), lambda: due(scene, thing),
                                 lambda: fate(pattern(op), scene, thing)):
                        with self.assertRaises(BadSpot) as caught:
                            call()
                        self.assertEqual(caught.exception.spot, thing)


class Fates(unittest.TestCase):
    def test_held_against_calls_on_boards(self):
        for op, seed in itertools.product(OPERATIONS, range(8)):
            drawn = Drawn(seed, 3)
            lines = drawn.handler(op) if seed % 2 else drawn.nearly(op)
            handler = Handler(op, *lines)
            for scene in small_scenes(op):
                board = scene.as_board()
                handler(board, **scene.arguments())
                expected = reference_scenes.fates(op, scene.key, lines)
                for spot, end in expected.items():
                    self.assertEqual(fate(handler, scene, spot), end, (handler.text, scene.key, spot))
                    row = scene.name_of(spot)
                    self.assertEqual(board.at(row) if row in board else None, end)

    def test_due_against_plain_lists(self):
        for op in OPERATIONS:
            for scene in small_scenes(op):
                board = scene.as_board()
                lists = {lst: board.rows_of(lst) for lst in ("home", "to", "other")}
                behind = apply(lists, op, **scene.arguments())
                places = {row: (lst, at) for lst, rows in behind.items() for at, row in enumerate(rows, 1)}
                for spot in scene.spots():
                    self.assertEqual(due(scene=scene, spot=spot), places.get(scene.name_of(spot)), (op, scene.key, spot))

    def test_great_scenes(self):
        scene = Scene("move", "within", home=BIG, x=5, k=BIG, other=BIG)
        handler = Handler("move", "shift home by -1 where place > x", "shift to by 1 where place >= k except x", "write x to k")
        for spot, end in ((5, BIG), (4, 4), (6, 5), (BIG, BIG - 1)):
            self.assertEqual(fate(handler=handler, scene=scene, spot=("home", spot)), ("home", end))
            self.assertEqual(due(scene, ("home", spot)), ("home", end))
        self.assertEqual(fate(handler, scene, ("other", BIG)), ("other", BIG))
        handler = Handler("move", "shift all by 3 where place > old last to - 9 and place <= count home - 2", "write x to count to + 9")
        self.assertEqual(fate(handler, scene, ("other", BIG - 2)), ("other", BIG + 1))
        self.assertEqual(fate(handler, scene, ("other", BIG - 1)), ("other", BIG - 1))
        self.assertEqual(fate(handler, scene, ("home", BIG - 8)), ("home", BIG - 5))
        self.assertEqual(fate(handler, scene, ("home", BIG - 9)), ("home", BIG - 9))
        self.assertEqual(fate(handler, scene, ("home", 5)), ("home", BIG + 9))

    def test_a_row_that_is_taken_or_never_comes(self):
        self.assertIsNone(fate(Handler("put"), Scene("put", "alone", k=1), ("new", 0)))
        scene = Scene("take", "alone", home=1, x=1)
        self.assertIsNone(fate(Handler("take", "drop x"), scene, ("home", 1)))
        self.assertIsNone(due(scene, ("home", 1)))
        self.assertEqual(fate(Handler("take", "drop x", "write x home 0"), scene, ("home", 1)), ("home", 0))

    def test_other_operation_ahead_of_bad_spot(self):
        for op, other in itertools.permutations(OPERATIONS, 2):
            scene = small_scenes(other, 2)[-1]
            for call in (lambda: fate(pattern(op), scene, None), lambda: slides(pattern(op), scene)):
                with self.assertRaises(OtherOperation) as caught:
                    call()
                self.assertEqual(caught.exception.op, op)


class Slides(unittest.TestCase):
    def test_the_lists_that_are_there(self):
        for op, world in worlds():
            scene = Scene(op, world, **good_numbers(op, world))
            there = [lst for lst in ("home", "to", "other") if lst == "other" or good_numbers(op, world).get(lst)]
            found = slides(handler=Handler(op), scene=scene)
            self.assertEqual(sorted(found), sorted(there))
            for slide in found.values():
                self.assertIs(type(slide), Slide)
                self.assertEqual(slide, Slide())
            self.assertEqual(slides(Handler(op, "shift all by 2"), scene), {lst: Slide((None, None, 2)) for lst in there})
        # A list that is there without rows has a slide, too.
        self.assertEqual(sorted(slides(Handler("add"), Scene("add", "alone"))), ["other", "to"])
        self.assertEqual(sorted(slides(Handler("send"), Scene("send", "apart", home=1, x=1))), ["home", "other", "to"])

    def test_shifts_with_conditions(self):
        scene = Scene("move", "apart", home=6, to=4, x=2, k=3, other=9)
        for line, lst, piece in (
            ("shift home by 1 where place > x", "home", (3, None, 1)), ("shift home by 1 where place >= x", "home", (2, None, 1)),
            ("shift to by -1 where place < k", "to", (None, 2, -1)), ("shift to by -1 where place <= k", "to", (None, 3, -1)),
            ("shift to by -1 where place = count to", "to", (4, 4, -1)),
            ("shift to by 3 where place > 1 and place < 4 except x", "to", (2, 3, 3)),
            ("shift to by 3 where place > 1 and place > 0 and place > 2", "to", (3, None, 3)),
            ("shift to by 3 where place < 1 and place <= 9 and place < 2", "to", (None, 0, 3)),
            ("shift to by 3 where place = 5 and place <= 5 and place >= 4", "to", (5, 5, 3)),
            ("shift home by 2 where place >= old last to + 9", "home", (13, None, 2)),
            ("when x = 2 do shift home by 2", "home", (None, None, 2)), ("when apart do shift home by 2", "home", (None, None, 2)),
            ("when k < old count to do shift to by 2", "to", (None, None, 2)),
        ):
            expected = {"home": Slide(), "to": Slide(), "other": Slide(), lst: Slide(piece)}
            self.assertEqual(slides(Handler("move", line), scene), expected, line)

    def test_what_is_left_out(self):
        scene = Scene("move", "within", home=6, x=2, k=3)
        for line in ("when x > 2 do shift home by 1", "when apart do shift home by 1", "shift home by 1 where place > 3 and place < 4",
                     "shift home by 1 where place = 3 and place = 2", "when k = 4 do shift all by 1", "write x to 9", "drop x"):
            self.assertEqual(slides(Handler("move", line), scene), {"home": Slide(), "other": Slide()}, line)

    def test_one_after_another(self):
        scene = Scene("send", "within", home=6, x=2)
        lines = ["shift home by -1 where place > x", "shift to by 1 where place >= 4 except x", "shift all by 1 where place = 3"]
        found = slides(Handler("send", *lines), scene)
        self.assertEqual(found["home"], Slide((3, None, -1)) >> Slide((4, None, 1)) >> Slide((3, 3, 1)))
        self.assertEqual(found["other"], Slide((3, 3, 1)))

    def test_terms_that_change_between_the_steps(self):
        scene = Scene("move", "apart", home=3, to=2, x=1, k=2)
        lines = ["shift home by 2", "shift to by 1 where place > x", "write x to 9", "shift to by 1 where place > x",
                 "drop x", "shift home by 1 where place <= count home"]
        found = slides(Handler("move", *lines), scene)
        self.assertEqual(found["to"], Slide((4, None, 1)) >> Slide((10, None, 1)))
        self.assertEqual(found["home"], Slide((None, None, 2)) >> Slide((None, 2, 1)))
        lines = ["write x to 1", "when count to = 3 do shift to by 1", "drop x", "when count to = 2 do shift to by 1"]
        self.assertEqual(slides(Handler("move", *lines), scene)["to"], Slide((None, None, 2)))

    def test_held_against_fates(self):
        draw = random.Random(5)
        for op, seed in itertools.product(OPERATIONS, range(10)):
            handler = Handler(op, *Drawn(seed, 3).handler(op))
            for scene in draw.sample(small_scenes(op), 6):
                found = slides(handler, scene)
                for spot in scene.spots():
                    if reference_scenes.kind_of(op, scene.key, spot) in ("home", "to", "other"):
                        self.assertEqual(fate(handler, scene, spot), (spot[0], found[spot[0]](spot[1])))

    def test_places_beyond_the_lists(self):
        # Each place of a slide, whether a row stands there or not, as the shifts one after another move it.
        for op, seed in itertools.product(OPERATIONS, range(10)):
            lines = Drawn(seed, 9).handler(op)
            handler = Handler(op, *lines)
            for scene in small_scenes(op, 2):
                found = slides(handler, scene)
                rows = reference_scenes.rows(op, scene.key)
                extra = {f"{lst[0]}{'m' if place < 0 else 'p'}{'abcdefghijklmnopqrstuvwxyz'[abs(place)]}": (lst, place)
                         for lst in found for place in range(-20, 21)}
                run = reference.Run({row: list(spot) for row, spot in rows.items()}, **reference_scenes.arguments(op, scene.key))
                ends = self.carried(run, lines, extra)
                for row, (lst, place) in extra.items():
                    self.assertEqual(found[lst](place), ends[row], (handler.text, scene.key, lst, place))

    def carried(self, run, lines, extra):
        """Where each shift carries further places, while the terms go by the rows of the run alone."""
        ends = {row: place for row, (lst, place) in extra.items()}
        for index, line in enumerate(lines):
            guard, action = reference.parts(line)
            words = action.split(" ")
            if words[0] == "shift" and run.guarded(guard):
                texts = reference.terms_in(action)
                signs = [part.strip().split(" ")[0] for part in action.split("place")[1:]]
                limits = [(sign, run.worth(text)) for sign, text in zip(signs, texts)]
                for row, (lst, place) in extra.items():
                    meant = words[1] == "all" or lst == run.lists[words[1]]
                    if meant and all(reference.holds(ends[row], sign, limit) for sign, limit in limits):
                        ends[row] += int(words[3])
            run.step(index, line)
        return ends

    def test_a_new_dict_each_time(self):
        scene = Scene("add", "alone", to=1)
        found = slides(pattern("add"), scene)
        found["to"] = None
        self.assertEqual(slides(pattern("add"), scene)["to"], Slide())

    def test_great_scenes(self):
        scene = Scene("move", "within", home=BIG, x=5, k=BIG)
        found = slides(pattern("move"), scene)
        self.assertEqual(found["home"](6), 5)
        self.assertEqual(found["home"](4), 4)
        self.assertEqual(found["home"](BIG), BIG - 1)
        self.assertEqual(found["other"], Slide())


if __name__ == "__main__":
    unittest.main()
