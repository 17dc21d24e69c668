import itertools
import random
import unittest

import reference_scenes
from lines import Drawn
from odd_objects import NESTED, NO_NAMES
from rowsinplace import papers
from rowsinplace import tables as module
from rowsinplace.bounds import Bounds
from rowsinplace.errors import BadKind, BadOperation, BadWorld, TooMany
from rowsinplace.handlers import Handler, pattern
from rowsinplace.plain import OPERATIONS
from rowsinplace.scenes import WORLDS, Scene, fate, scenes, worlds_of
from rowsinplace.tables import kinds_of, numbers_of, table

ALONE = ("x", "home", "other")
KINDS = {
    ("put", "alone"): ("x", "to", "other"), ("add", "alone"): ("x", "to", "other"), ("take", "alone"): ALONE,
    ("top", "alone"): ALONE, ("bottom", "alone"): ALONE, ("up", "alone"): ALONE, ("down", "alone"): ALONE,
    ("move", "apart"): ("x", "home", "to", "other"), ("move", "within"): ALONE,
    ("send", "apart"): ("x", "home", "to", "other"), ("send", "within"): ALONE,
    ("swap", "apart"): ("x", "y", "home", "to", "other"), ("swap", "within"): ("x", "y", "home", "other"),
    ("swap", "itself"): ALONE,
}
NUMBERS = {
    ("put", "alone"): ("to", "other", "k"), ("add", "alone"): ("to", "other"), ("take", "alone"): ("home", "other", "x"),
    ("top", "alone"): ("home", "other", "x"), ("bottom", "alone"): ("home", "other", "x"), ("up", "alone"): ("home", "other", "x"),
    ("down", "alone"): ("home", "other", "x"), ("move", "apart"): ("home", "to", "other", "x", "k"),
    ("move", "within"): ("home", "other", "x", "k"), ("send", "apart"): ("home", "to", "other", "x"),
    ("send", "within"): ("home", "other", "x"), ("swap", "apart"): ("home", "to", "other", "x", "y"),
    ("swap", "within"): ("home", "other", "x", "y"), ("swap", "itself"): ("home", "other", "x"),
}
SMALL = {op: [scene for total in range(5) for scene in scenes(op, total)] for op in OPERATIONS}


def holds(bounds, numbers):
    return all(numbers[u] <= numbers[v] + c for u, v, c in bounds)


def standing(op, world, kind):
    """The bounds that all scenes and spots of a kind satisfy [31]."""
    names = numbers_of(op, world, kind)
    found = [("zero", name, 0 if name in ("home", "to", "other") else -1) for name in names]
    if "x" in names:
        found.append(("x", "home", 0))
    if "y" in names:
        found.append(("y", "to" if world == "apart" else "home", 0))
    if "row" in names:
        found.append(("row", kind, 0))
    if "k" in names:
        found.append(("k", "home", 0) if world == "within" else ("k", "to", 1))
    return found


def apart(op, world, kind):
    """The pairs of numbers that stand for places of different rows of one list."""
    lists = {"x": "home", "y": "to" if world == "apart" else "home", "row": kind}
    names = [name for name in ("x", "y", "row") if name in numbers_of(op, world, kind)]
    return [(u, v) for u, v in itertools.combinations(names, 2) if lists[u] == lists[v]]


def great_scene(draw, op, world):
    """A scene with small or great numbers, close to each other."""
    while True:
        base = draw.choice((0, 3, 20, 10 ** 29))
        home, to, other = [max(0, base + draw.randint(-12, 12)) for _ in range(3)]
        near = [max(0, draw.choice((0, home, to, home // 2)) + draw.randint(-12, 12)) for _ in range(3)]
        x, y, k = near
        if op in ("put", "add"):
            home = x = 0
        elif world != "apart":
            to = 0
        y = 0 if op != "swap" or world == "itself" else y
        k = 0 if op not in ("put", "move") else k
        if reference_scenes.fits(op, world, home, to, x, y, k):
            return Scene(op, world, home=home, to=to, x=x, y=y, k=k, other=other)


class Kinds(unittest.TestCase):
    def test_the_functions_stand_in_the_module(self):
        for name in ("kinds_of", "numbers_of", "table"):
            self.assertEqual(vars(module)[name].__module__, "rowsinplace.tables")

    def test_kinds_and_numbers(self):
        self.assertEqual(sorted(KINDS), sorted((op, world) for op in OPERATIONS for world in worlds_of(op)))
        for (op, world), kinds in KINDS.items():
            self.assertEqual(kinds_of(op=op, world=world), kinds)
            self.assertIs(type(kinds_of(op, world)), tuple)
            for kind in kinds:
                row = ("row",) if kind in ("home", "to", "other") else ()
                self.assertEqual(numbers_of(op=op, world=world, kind=kind), NUMBERS[op, world] + row)
                self.assertIs(type(numbers_of(op, world, kind)), tuple)

    def test_bad_operation_bad_world_and_bad_kind(self):
        for thing in NO_NAMES + ["puts", ["put"], ("put",)]:
            for call in (lambda: kinds_of(thing, thing), lambda: numbers_of(thing, thing, thing)):
                with self.assertRaises(BadOperation) as caught:
                    call()
                self.assertEqual(caught.exception.op, thing)
        for op in OPERATIONS:
            for thing in NO_NAMES + ["Alone", ["alone"], NESTED] + [world for world in WORLDS if world not in worlds_of(op)]:
                for call in (lambda: kinds_of(op, thing), lambda: numbers_of(op, thing, thing), lambda: table(pattern(op), thing, thing)):
                    with self.assertRaises(BadWorld) as caught:
                        call()
                    self.assertEqual(caught.exception.world, thing)
        for (op, world), kinds in KINDS.items():
            some = [kind for kind in ("x", "y", "home", "to", "other", "new", "row", "k") if kind not in kinds]
            for thing in NO_NAMES + [["x"], ("home",), "Home", NESTED] + some:
                for call in (lambda: numbers_of(op, world, thing), lambda: table(pattern(op), world, thing)):
                    with self.assertRaises(BadKind) as caught:
                        call()
                    self.assertEqual(caught.exception.kind, thing)


class Tables(unittest.TestCase):
    def assertTable(self, handler, draw):
        """Holds all tables of a handler against its fates in small scenes and in some great ones."""
        for world in worlds_of(handler.op):
            places = {kind: [] for kind in kinds_of(handler.op, world)}
            for scene in SMALL[handler.op]:
                if scene.world == world:
                    for spot in scene.spots():
                        places[reference_scenes.kind_of(handler.op, scene.key, spot)].append((scene, spot))
            for _ in range(8):
                self.add_great(draw, handler.op, world, places)
            for kind in places:
                self.assertEntries(handler, world, kind, places[kind])

    def add_great(self, draw, op, world, places):
        scene = great_scene(draw, op, world)
        for kind in places:
            if kind in ("x", "y"):
                home = "home" if kind == "x" or world == "within" else "to"
                spot = ("new", 0) if op in ("put", "add") else (home, getattr(scene, kind))
                places[kind].append((scene, spot))
                continue
            count = getattr(scene, kind)
            for near in (1, scene.x, scene.y, scene.k, count, scene.home, scene.to):
                spot = (kind, max(1, near + draw.randint(-10, 10)))
                if spot[1] <= count and reference_scenes.kind_of(op, scene.key, spot) == kind:
                    places[kind].append((scene, spot))

    def assertEntries(self, handler, world, kind, places):
        found = table(handler=handler, world=world, kind=kind)
        self.assertIs(type(found), list)
        names = numbers_of(handler.op, world, kind) + ("zero",)
        for bounds, end in found:
            self.assertForm(bounds, end, names)
            self.assertReached(handler, world, kind, bounds, end)
        for scene, spot in places:
            numbers = {name: getattr(scene, name) for name in ("home", "to", "other", "x", "y", "k")}
            numbers.update(zero=0, row=spot[1])
            ends = [end for bounds, end in found if holds(bounds, numbers)]
            self.assertEqual(len(ends), 1, (handler.text, world, kind, scene.key, spot))
            end = ends[0] and (ends[0][0], numbers[ends[0][1]] + ends[0][2])
            self.assertEqual(end, fate(handler, scene, spot), (handler.text, world, kind, scene.key, spot))

    def assertForm(self, bounds, end, names):
        self.assertIs(type(bounds), tuple)
        self.assertLessEqual(len(bounds), 25)
        self.assertEqual(len(Bounds(*bounds)), len(bounds))
        for u, v, c in bounds:
            self.assertIn(u, names)
            self.assertIn(v, names)
        if end is not None:
            self.assertIs(type(end), tuple)
            self.assertIn(end[0], ("home", "to", "other"))
            self.assertIn(end[1], names)
            self.assertIs(type(end[2]), int)

    def assertReached(self, handler, world, kind, bounds, end):
        """There is a scene and a spot of the kind in which all bounds of an entry hold."""
        pairs = apart(handler.op, world, kind)
        for turns in itertools.product((True, False), repeat=len(pairs)):
            ways = [(u, v, -1) if turn else (v, u, -1) for (u, v), turn in zip(pairs, turns)]
            least = Bounds(*bounds, *standing(handler.op, world, kind), *ways).least()
            if least is not None:
                numbers = {name: least[name] for name in least if name != "row"}
                scene = Scene(handler.op, world, **numbers)
                spot = (kind, least["row"]) if "row" in least else None
                if kind == "y":
                    spot = ("to" if world == "apart" else "home", scene.y)
                elif kind == "x":
                    spot = ("new", 0) if handler.op in ("put", "add") else ("home", scene.x)
                found = end and (end[0], ({**least, "zero": 0})[end[1]] + end[2])
                self.assertEqual(fate(handler, scene, spot), found)
                return
        self.fail(f"nothing reaches {bounds} in {handler.text} {world} {kind}")

    def test_patterns_and_handlers_without_steps(self):
        draw = random.Random(8)
        for op in OPERATIONS:
            self.assertTable(pattern(op), draw)
            self.assertTable(Handler(op), draw)
            for world, kind in ((world, kind) for world in worlds_of(op) for kind in kinds_of(op, world)):
                if kind in ("home", "to", "other"):
                    self.assertEqual({end for bounds, end in table(Handler(op), world, kind)}, {(kind, "row", 0)})
        self.assertEqual(table(Handler("put"), "alone", "x"), [((), None)])
        self.assertEqual(table(Handler("take", "drop x"), "alone", "x"), [((), None)])
        self.assertEqual(table(Handler("top"), "alone", "x"), [((), ("home", "x", 0))])
        self.assertEqual(table(pattern("add"), "alone", "x"), [((), ("to", "to", 1))])

    def test_drawn_handlers(self):
        draw = random.Random(9)
        for op, seed in itertools.product(OPERATIONS, range(14)):
            drawn = Drawn(seed, (2, 9)[seed % 2])
            lines = drawn.handler(op) if seed % 3 else drawn.nearly(op)
            self.assertTable(Handler(op, *lines), draw)

    def test_drops_guards_and_further_words(self):
        draw = random.Random(10)
        for op, lines in (
            ("move", ["drop x", "shift all by 2 where place > count to", "write x to k", "when x = k do shift to by 1 except x"]),
            ("move", ["when within do shift to by 1 where place = x", "when x > k + 2 do write x to x - 1", "drop x"]),
            ("move", ["when old count to < 3 do write x to count to", "when count to = old count to do shift all by 1"]),
            ("swap", ["write y home x - 1", "when y < old y do write x to count to + 2", "shift all by -1 where place = y except x"]),
            ("swap", ["shift all by 3 where place > y except y", "shift home by -3 where place > y - 2", "write x to y"]),
            ("take", ["shift home by 1 where place < x and place > x - 4", "when old last home = x do write x home 0"]),
            ("put", ["write x to old last to + 9", "shift to by -2 where place > x - 9 and place >= k + 1", "when x > 5 do write x to x"]),
            ("send", ["shift all by 1 where place = 3 and place = x and place = count to"]),
        ):
            self.assertTable(Handler(op, *lines), draw)

    def test_entries_for_places_beside_each_other_are_not_there_for_one_row_alone(self):
        # Only row x stands at its place: no other row is moved.
        for op in ("take", "top", "swap"):
            for world in worlds_of(op):
                found = table(Handler(op, "shift home by 2 where place = old x except x"), world, "home")
                self.assertEqual({end for bounds, end in found}, {("home", "row", 0)})

    def test_each_entry_has_a_scene_with_the_rows_at_different_places(self):
        """The bounds of an entry and the standing bounds have a solution, and not for row = x or x = y alone."""
        for op, seed in itertools.product(OPERATIONS, range(16)):
            drawn = Drawn(seed, (2, 9)[seed % 2])
            handler = Handler(op, *(drawn.handler(op) if seed % 3 else drawn.nearly(op)))
            for world in worlds_of(op):
                for kind in kinds_of(op, world):
                    stands = papers.standing(op, world, kind)
                    ways = list(itertools.product(*[((u, v, -1), (v, u, -1)) for u, v in apart(op, world, kind)]))
                    for bounds, end in table(handler, world, kind):
                        self.assertIsNotNone(Bounds(*stands, *bounds).least())
                        self.assertTrue(any(Bounds(*stands, *bounds, *way).least() is not None for way in ways), (handler.text, bounds))

    def test_too_many_comparisons(self):
        six = Handler("move", "shift home by 1 where place = 1 and place = 2 and place = 3")
        seven = Handler("move", "when k < 1 do shift home by 1 where place = 1 and place = 2 and place = 3")
        self.assertIs(type(table(six, "apart", "home")), list)
        with self.assertRaises(TooMany) as caught:
            table(seven, "apart", "home")
        self.assertEqual(caught.exception.limit, 6)
        with self.assertRaises(BadWorld):
            table(seven, "alone", "none")
        with self.assertRaises(BadKind):
            table(seven, "apart", "y")

    def test_a_new_list_each_time(self):
        handler = pattern("take")
        found = table(handler, "alone", "home")
        expected = list(found)
        found.clear()
        self.assertEqual(table(handler, "alone", "home"), expected)


if __name__ == "__main__":
    unittest.main()
