import copy
import itertools
import random
import unittest

import reference_scenes
from lines import RIGHT, Drawn
from odd_objects import BIG, NESTED, NO_NAMES
from rowsinplace import papers as module
from rowsinplace.bounds import Bounds, is_ring, opposite
from rowsinplace.errors import BadKind, BadOperation, BadWorld, OtherOperation, TooMany
from rowsinplace.handlers import Handler, pattern
from rowsinplace.papers import is_paper, paper, standing
from rowsinplace.plain import OPERATIONS
from rowsinplace.scenes import WORLDS, fate, worlds_of
from rowsinplace.tables import kinds_of, numbers_of, table
from rowsinplace.verdicts import alike
from test_tables import SMALL, apart, great_scene
from test_tables import standing as standing_as_told

CASES = [(op, world, kind) for op in OPERATIONS for world in worlds_of(op) for kind in kinds_of(op, world)]

# The same operations in other words, some with guards and shifts that cancel each other.
OTHER_WORDS = {
    "put": [["write x to k", "shift to by 1 where place >= k except x"],
            ["shift to by 1", "shift to by -1 where place <= k", "write x to k"]],
    "add": [["write x to old count to + 1"], ["write x to 1", "write x to count to"]],
    "take": [["drop x", "shift home by -1 where place >= old x"], ["shift home by -1", "shift home by 1 where place < x", "drop x"]],
    "move": [["shift home by -1 where place > old x", "write x to k", "shift to by 1 where place >= x except x"]],
    "send": [["shift home by -1 where place > x", "write x to old count to + 1", "when within do write x home x - 1"]],
    "top": [["write x home 1", "shift home by 1 where place < old x except x"], ["shift home by 1 where place < x", "write x home 1"]],
    "bottom": [["shift home by -1 where place > x", "write x home old last home"]],
    "up": [["when x > 1 do write x home x - 1", "shift home by 1 where place = old x - 1 except x"]],
    "down": [["when x < count home do write x home x + 1", "shift home by -1 where place = old x + 1 except x"]],
    "swap": [["write x to y", "write y home old x"], ["write y home old x", "write x to old y"]],
}


def numbers_at(scene, spot):
    return {**scene.as_dict(), "zero": 0, "row": spot[1]}


def holds(bound, numbers):
    u, v, c = bound
    return numbers[u] <= numbers[v] + c


def place_of(end, numbers):
    return None if end is None else (end[0], numbers[end[1]] + end[2])


def led_to(nodes, numbers):
    """The node to which a paper leads."""
    index = 0
    while nodes[index][0] == "ask":
        index = nodes[index][2 if holds(nodes[index][1], numbers) else 3]
    return nodes[index]


def paths(nodes, first):
    """The path of each node, behind the bounds that stand at first."""
    found = {0: list(first)}
    for index, node in enumerate(nodes):
        if node[0] == "ask":
            found[node[2]] = found[index] + [node[1]]
            found[node[3]] = found[index] + [opposite(node[1])]
    return found


def ways_apart(op, world, kind):
    """For each order of the rows that are not one the bounds that tell it."""
    pairs = apart(op, world, kind)
    return [list(way) for way in itertools.product(*[((u, v, -1), (v, u, -1)) for u, v in pairs])]


def is_end_right(handler, world, kind, path, end):
    """Whether a handler has an end as the fate, wherever the bounds of a path hold."""
    for entry, fate_there in table(handler, world, kind):
        for way in ways_apart(handler.op, world, kind):
            some = [*path, *entry, *way]
            if Bounds(*some).least() is None:
                continue
            if end is None or fate_there is None or end[0] != fate_there[0]:
                if end != fate_there:
                    return False
            elif any(Bounds(*some, *more).least() is not None for more in differences(end, fate_there)):
                return False
    return True


def differences(end, other):
    """Bounds, one of which holds exactly if two ends of one list are different."""
    (_, u, c), (_, v, d) = end, other
    if u != v:
        return [[(u, v, d - c - 1)], [(v, u, c - d - 1)]]
    return [] if c == d else [[]]


def is_paper_as_told(first, second, world, kind, nodes):
    """Whether a list that is built like a paper is one."""
    known = paths(nodes, standing_as_told(first.op, world, kind))
    for index, node in enumerate(nodes):
        if node[0] == "ring" and not (is_ring(node[1]) and all(bound in known[index] for bound in node[1])):
            return False
        if node[0] == "end" and not all(is_end_right(handler, world, kind, known[index], node[1]) for handler in (first, second)):
            return False
    return True


class Forms(unittest.TestCase):
    def test_the_functions_stand_in_the_module(self):
        for name in ("standing", "paper", "is_paper"):
            self.assertEqual(vars(module)[name].__module__, "rowsinplace.papers")

    def test_standing(self):
        for op, world, kind in CASES:
            found = standing(op=op, world=world, kind=kind)
            self.assertIs(type(found), list)
            self.assertEqual(sorted(found), sorted(standing_as_told(op, world, kind)))
            found.clear()
            self.assertEqual(sorted(standing(op, world, kind)), sorted(standing_as_told(op, world, kind)))

    def test_standing_to_the_letter(self):
        self.assertEqual(sorted(standing("move", "within", "home")), sorted([
            ("zero", "home", 0), ("zero", "other", 0), ("zero", "x", -1), ("zero", "k", -1), ("zero", "row", -1),
            ("x", "home", 0), ("row", "home", 0), ("k", "home", 0)]))
        self.assertEqual(sorted(standing("put", "alone", "x")), sorted([
            ("zero", "to", 0), ("zero", "other", 0), ("zero", "k", -1), ("k", "to", 1)]))
        self.assertEqual(sorted(standing("swap", "apart", "other")), sorted([
            ("zero", "home", 0), ("zero", "to", 0), ("zero", "other", 0), ("zero", "x", -1), ("zero", "y", -1),
            ("zero", "row", -1), ("x", "home", 0), ("y", "to", 0), ("row", "other", 0)]))

    def test_bad_operation_bad_world_and_bad_kind(self):
        for thing in NO_NAMES + ["puts", ["put"], NESTED]:
            with self.assertRaises(BadOperation) as caught:
                standing(thing, thing, thing)
            self.assertEqual(caught.exception.op, thing)
        seven = Handler("move", "shift home by 1 where place = 1 and place = 2 and place = 3", "shift home by 1 where place > 3")
        for op in OPERATIONS:
            handler = seven if op == "move" else pattern(op)
            other = pattern("add" if op == "put" else "put")
            for call in (lambda: paper(handler, other, None, None), lambda: is_paper(handler, other, None, None, None)):
                with self.assertRaises(OtherOperation) as caught:
                    call()
                self.assertEqual(caught.exception.op, other.op)
            for thing in NO_NAMES + ["Alone", ["alone"], NESTED] + [world for world in WORLDS if world not in worlds_of(op)]:
                for call in (lambda: standing(op, thing, thing), lambda: paper(handler, handler, thing, thing),
                             lambda: is_paper(handler, handler, thing, thing, [])):
                    with self.assertRaises(BadWorld) as caught:
                        call()
                    self.assertEqual(caught.exception.world, thing)
            for world in worlds_of(op):
                some = [kind for kind in ("x", "y", "home", "to", "other", "new", "row", "k") if kind not in kinds_of(op, world)]
                for thing in NO_NAMES + [["x"], ("home",), "Home", NESTED] + some:
                    for call in (lambda: standing(op, world, thing), lambda: paper(handler, handler, world, thing),
                                 lambda: is_paper(handler, handler, world, thing, [])):
                        with self.assertRaises(BadKind) as caught:
                            call()
                        self.assertEqual(caught.exception.kind, thing)

    def test_too_many_comparisons_of_both_together(self):
        three = Handler("take", "shift home by 1 where place > 1 and place > 2 and place > 3")
        four = Handler("take", "shift home by 1 where place = 1 and place = 2")
        self.assertIs(type(paper(three, three, "alone", "home")), list)
        self.assertIs(is_paper(three, three, "alone", "home", paper(three, three, "alone", "home")), True)
        for first, second in ((three, four), (four, three)):
            for call in (lambda: paper(first, second, "alone", "x"), lambda: is_paper(first, second, "alone", "x", [])):
                with self.assertRaises(TooMany) as caught:
                    call()
                self.assertEqual(caught.exception.limit, 6)


class Papers(unittest.TestCase):
    def assertPapers(self, first, second, draw):
        """All papers of two handlers are right, and there are none just where the handlers are not alike."""
        missing = []
        for world in worlds_of(first.op):
            great = [great_scene(draw, first.op, world) for _ in range(4)]
            spots = {kind: [] for kind in kinds_of(first.op, world)}
            for scene in [scene for scene in SMALL[first.op] if scene.world == world]:
                for spot in scene.spots():
                    spots[reference_scenes.kind_of(first.op, scene.key, spot)].append((scene, spot))
            for scene in great:
                for spot in self.spots_of(draw, scene):
                    spots[reference_scenes.kind_of(first.op, scene.key, spot)].append((scene, spot))
            for kind in spots:
                if not self.assertPaper(first, second, world, kind, spots[kind]):
                    missing.append((world, kind))
        self.assertEqual(missing == [], alike(first, second).holds)
        return missing

    def spots_of(self, draw, scene):
        found = [("new", 0)] if scene.op in ("put", "add") else []
        for lst, many in (("home", scene.home), ("to", scene.to), ("other", scene.other)):
            near = [scene.x, scene.y, scene.k, scene.home, scene.to, many, 1]
            places = {base + more for base in near for more in range(-2, 3)}
            found += [(lst, place) for place in draw.sample(sorted(places), 5) if 1 <= place <= many]
        return found

    def assertPaper(self, first, second, world, kind, spots):
        nodes = paper(first=first, second=second, world=world, kind=kind)
        differ = [1 for scene, spot in spots if fate(first, scene, spot) != fate(second, scene, spot)]
        if nodes is None:
            self.assertFalse(self.are_alike(first, second, world, kind))
            return False
        self.assertEqual(differ, [])
        self.assertIs(type(nodes), list)
        self.assertBuilt(nodes, first.op, world, kind)
        for scene, spot in spots:
            node = led_to(nodes, numbers_at(scene, spot))
            self.assertEqual(node[0], "end")
            self.assertEqual(place_of(node[1], numbers_at(scene, spot)), fate(first, scene, spot), (first.text, world, kind, scene.key, spot))
        self.assertIs(is_paper(first, second, world, kind, nodes), True)
        self.assertIs(is_paper(second, first, world, kind, nodes), True)
        return True

    def are_alike(self, first, second, world, kind):
        """Whether two handlers do the same with the rows of a kind, by their tables."""
        stands = standing_as_told(first.op, world, kind)
        return all(is_end_right(second, world, kind, [*stands, *bounds], end) for bounds, end in table(first, world, kind))

    def assertBuilt(self, nodes, op, world, kind):
        """The nodes are built as a paper's are, and no ask is needless."""
        names = ("zero", *numbers_of(op, world, kind))
        known = paths(nodes, standing_as_told(op, world, kind))
        named = []
        for index, node in enumerate(nodes):
            self.assertIs(type(node), tuple)
            if node[0] == "ask":
                _, bound, yes, no = node
                self.assertTrue(set(bound[:2]) <= set(names))
                self.assertTrue(index < yes and index < no)
                self.assertIsNotNone(Bounds(*known[index], bound).least())
                self.assertIsNotNone(Bounds(*known[index], opposite(bound)).least())
                named += [yes, no]
            elif node[0] == "ring":
                self.assertTrue(is_ring(node[1]) and all(bound in known[index] for bound in node[1]))
            else:
                self.assertEqual((node[0], len(node)), ("end", 2))
        self.assertEqual(sorted(named), list(range(1, len(nodes))))

    def test_the_same_handler_twice(self):
        draw = random.Random(1)
        for op in OPERATIONS:
            self.assertEqual(self.assertPapers(pattern(op), pattern(op), draw), [])
            self.assertEqual(self.assertPapers(Handler(op), Handler(op), draw), [])

    def test_right_ones_in_other_words(self):
        draw = random.Random(2)
        for op in OPERATIONS:
            for lines in OTHER_WORDS[op] + RIGHT[op]:
                self.assertEqual(self.assertPapers(pattern(op), Handler(op, *lines), draw), [], lines)
                self.assertEqual(self.assertPapers(Handler(op, *lines), Handler(op, *OTHER_WORDS[op][0]), draw), [], lines)

    def test_wrong_ones(self):
        draw = random.Random(3)
        take = Handler("take", "drop x", "shift home by -1 where place > old x and place < 9")
        self.assertEqual(self.assertPapers(take, pattern("take"), draw), [("alone", "home")])
        move = Handler("move", "shift home by -1 where place > x", "shift to by 1 where place > k except x", "write x to k")
        self.assertEqual(self.assertPapers(pattern("move"), move, draw), [("apart", "to"), ("within", "home")])
        swap = Handler("swap", "write x to old y", "when old x < old y + 9 do write y home old x")
        self.assertEqual(self.assertPapers(swap, pattern("swap"), draw), [("apart", "y"), ("within", "y")])
        put = Handler("put", "shift all by 1 where place >= k", "write x to k")
        self.assertEqual(self.assertPapers(put, pattern("put"), draw), [("alone", "other")])
        drop = Handler("send", "shift home by -1 where place > x", "drop x")
        self.assertEqual(self.assertPapers(drop, pattern("send"), draw), [("apart", "x"), ("within", "x")])

    def test_drawn_pairs(self):
        draw = random.Random(4)
        found = []
        for op, seed in itertools.product(OPERATIONS, range(10)):
            lines, others = Drawn(seed, (9, 2)[seed % 2]).nearly(op, 3), Drawn(seed + 40, 3).nearly(op, 3)
            found.append(self.assertPapers(Handler(op, *lines), Handler(op, *others), draw) == [])
            lines = Drawn(seed, 2).handler(op, 6, 3)
            found.append(self.assertPapers(Handler(op, *lines), Handler(op, *lines), draw) == [])
        self.assertGreater(found.count(True), 110)
        self.assertGreater(found.count(False), 30)


class Read(unittest.TestCase):
    """is_paper, held against the document's words by way of tables and systems of bounds."""

    def setUp(self):
        self.first = Handler("move", *RIGHT["move"][1])
        self.second = pattern("move")
        self.nodes = paper(self.first, self.second, "within", "home")

    def ask(self, thing, first=None, second=None, world="within", kind="home"):
        return is_paper(first or self.first, second or self.second, world, kind, thing)

    def pairs(self):
        """Pairs of handlers that are alike, each with a world, a kind and their paper."""
        for op, world, kind in CASES:
            first, second = pattern(op), Handler(op, *OTHER_WORDS[op][0])
            yield first, second, world, kind, paper(first, second, world, kind)

    def test_any_object(self):
        bound = ("row", "x", 0)
        end = ("end", None)
        things = NO_NAMES + [
            [[]], [()], [end, end], [("end",)], [("end", None, None)], [("ends", None)], [("end", "home")], [("end", ("home", "row"))],
            [("end", ("home", "row", True))], [("end", ["home", "row", 0])], [("end", ("home", "next", 0))], [("end", ("new", "row", 0))],
            [("end", ("home", ["row"], 0))], [("end", (["home"], "row", 0))], [("end", ())], [("end", False)], [["end", None]],
            [("ring", ())], [("ring", None)], [("ring", [("row", "x", -1), ("x", "row", 0)])], [("ring", (bound,))], [("ring",)],
            [("ask", bound, 1, 2)], [("ask", bound, 1, 1), end], [("ask", bound, 0, 1), end], [("ask", bound, 1, 3), end, end],
            [("ask", bound, True, 2), end, end], [("ask", bound, 1, "2"), end, end], [("ask", bound, -1, -2), end, end],
            [("ask", ("row", "row", 0), 1, 2), end, end], [("ask", ("row", "to", 0), 1, 2), end, end], [("ask", None, 1, 2), end, end],
            [("ask", ("row", "x", True), 1, 2), end, end], [("ask", ["row", "x", 1], 1, 2), end, end], [("ask", bound, 1), end],
            [("ask", bound, 1, 2, 3), end, end, end], [("ask", bound, 1, 2), end, end, end], [("ask", bound, 2, 1), end],
            [("ask", ("row", "next", 0), 1, 2), end, end], [None, end], [end, None], [True], [1], ["end"], "end", {"a": 1}, NESTED,
        ]
        for thing in things:
            self.assertIs(self.ask(thing), False, thing)
        stays = Handler("move")
        for thing in things:
            self.assertIs(self.ask(thing, stays, stays), False, thing)
        self.assertIs(self.ask([("end", ("home", "row", 0))], stays, stays), True)
        self.assertIs(is_paper(first=stays, second=stays, world="within", kind="x", thing=[("end", ("home", "x", 0))]), True)

    def test_returned_papers_as_tuples(self):
        for first, second, world, kind, nodes in self.pairs():
            self.assertIs(is_paper(first, second, world, kind, nodes), True)
            self.assertIs(is_paper(first, second, world, kind, tuple(nodes)), False)
            self.assertIs(is_paper(first, second, world, kind, [list(node) for node in nodes]), False)
            self.assertIs(is_paper(first, second, world, kind, [nodes]), False)

    def test_a_paper_of_other_handlers(self):
        wrong = Handler("move", "shift home by -1 where place > x", "shift to by 1 where place > k except x", "write x to k")
        self.assertIs(self.ask(self.nodes, self.first, wrong), False)
        self.assertIs(self.ask(self.nodes, wrong, self.second), False)
        self.assertIs(self.ask(self.nodes, wrong, wrong), False)
        self.assertIs(self.ask(self.nodes, kind="other"), False)
        self.assertIs(self.ask(self.nodes, kind="x"), False)

    def test_nodes_left_out_doubled_and_added(self):
        for first, second, world, kind, nodes in self.pairs():
            for index in range(len(nodes)):
                self.assertIs(is_paper(first, second, world, kind, nodes[:index] + nodes[index + 1:]), False)
                self.assertIs(is_paper(first, second, world, kind, nodes[:index] + [nodes[index]] + nodes[index:]), False)
            self.assertIs(is_paper(first, second, world, kind, [*nodes, ("end", None)]), False)
            self.assertIs(is_paper(first, second, world, kind, [*nodes, nodes[-1]]), False)

    def test_other_indexes(self):
        for first, second, world, kind, nodes in self.pairs():
            for index, node in [(index, node) for index, node in enumerate(nodes) if node[0] == "ask"]:
                for other in (index, index - 1, 0, len(nodes), True, None, -1, "1", (1,)):
                    for changed in (("ask", node[1], other, node[3]), ("ask", node[1], node[2], other)):
                        if changed != node or other is True:
                            some = nodes[:index] + [changed] + nodes[index + 1:]
                            self.assertIs(is_paper(first, second, world, kind, some), False, some)
                some = nodes[:index] + [("ask", node[1], node[2], node[2])] + nodes[index + 1:]
                self.assertIs(is_paper(first, second, world, kind, some), False)

    def test_other_ends(self):
        draw = random.Random(5)
        seen = {True: 0, False: 0}
        for first, second, world, kind, nodes in self.pairs():
            names = ("zero", *numbers_of(first.op, world, kind))
            ends = [("home", "zero", 0), ("to", names[-1], 0), ("other", names[-1], 1), None]
            ends += [(draw.choice(("home", "to", "other")), draw.choice(names), draw.randint(-2, 2)) for _ in range(8)]
            for index, node in [(index, node) for index, node in enumerate(nodes) if node[0] == "end"]:
                if node[1] is not None:
                    ends = [*ends, (node[1][0], node[1][1], node[1][2] + 1), (*node[1][:2], BIG), ("to", *node[1][1:])]
                for end in ends:
                    some = nodes[:index] + [("end", end)] + nodes[index + 1:]
                    expected = is_paper_as_told(first, second, world, kind, some)
                    self.assertIs(is_paper(first, second, world, kind, some), expected, (world, kind, some))
                    seen[expected] += 1
        self.assertGreater(seen[True], 30)
        self.assertGreater(seen[False], 500)

    def test_an_end_that_is_wrong_only_in_some_scenes_of_its_path(self):
        # Row 1 is ahead of all, so that where row is 1, "zero" and 1 would be the place of a row that stays.
        take = pattern("take")
        nodes = [("ask", ("row", "x", -1), 1, 2), ("end", ("home", "row", 0)), ("end", ("home", "row", -1))]
        self.assertIs(is_paper(take, take, "alone", "home", nodes), True)
        for end in (("home", "zero", 1), ("home", "x", -1)):
            self.assertIs(is_paper(take, take, "alone", "home", [nodes[0], ("end", end), nodes[2]]), False)
        # The same ask with another constant leads one row to the wrong end, in great scenes alone.
        for c, found in ((0, True), (-1, True), (-2, False), (1, False), (10 ** 29, False), (-(10 ** 29), False)):
            changed = [("ask", ("row", "x", c), 1, 2), *nodes[1:]]
            self.assertIs(is_paper(take, take, "alone", "home", changed), found, c)

    def test_the_other_way_round(self):
        take = pattern("take")
        nodes = [("ask", ("x", "row", 0), 2, 1), ("end", ("home", "row", 0)), ("end", ("home", "row", -1))]
        self.assertIs(is_paper(take, take, "alone", "home", nodes), True)
        self.assertIs(is_paper(take, take, "alone", "home", [("ask", ("x", "row", 0), 1, 2), *nodes[1:]]), False)

    def grown(self, nodes, index, bound, yes=None, no=None):
        """Nodes with an ask in the place of an end, with that end behind yes and no, or others."""
        many = len(nodes)
        ask = ("ask", bound, many, many + 1)
        return nodes[:index] + [ask] + nodes[index + 1:] + [yes or nodes[index], no or nodes[index]]

    def test_grown_by_any_bound(self):
        draw = random.Random(6)
        for first, second, world, kind, nodes in self.pairs():
            names = ("zero", *numbers_of(first.op, world, kind))
            for index in [index for index, node in enumerate(nodes) if node[0] == "end"]:
                for c in (0, draw.randint(-3, 3), 10 ** 29, -(10 ** 29)):
                    bound = (*draw.sample(names, 2), c)
                    some = self.grown(nodes, index, bound)
                    self.assertIs(is_paper(first, second, world, kind, some), True, some)
                    self.assertIs(is_paper(first, second, world, kind, self.grown(some, len(some) - 1, opposite(bound))), True)
            outside = [name for name in ("home", "to", "other", "x", "y", "k", "row", "next", "q") if name not in names]
            for name in outside:
                for bound in (("zero", name, 0), (name, "zero", 0), (name, names[1], 5)):
                    self.assertIs(is_paper(first, second, world, kind, self.grown(nodes, len(nodes) - 1, bound)), False)

    def test_asks_that_always_hold_and_rings_behind_no(self):
        for first, second, world, kind, nodes in self.pairs():
            index = len(nodes) - 1
            names = numbers_of(first.op, world, kind)
            for name in names:
                standing_bound = ("zero", name, 0 if name in ("home", "to", "other") else -1)
                low = ("zero", name, 3)
                ring = (standing_bound, (name, "zero", -4))
                some = self.grown(nodes, index, low, no=("ring", ring))
                self.assertIs(is_paper(first, second, world, kind, some), True)
                turned = self.grown(nodes, index, low, no=("ring", ring[::-1] * 3))
                self.assertIs(is_paper(first, second, world, kind, turned), True)
                # Nothing leads behind no, so any end is right there.
                for end in (None, ("to", name, 77), ("other", "zero", -BIG), ("home", "zero", BIG)):
                    self.assertIs(is_paper(first, second, world, kind, self.grown(nodes, index, low, no=("end", end))), True)
                for wrong in ((("zero", name, -1), (name, "zero", -3)), (("zero", name, 3), (name, "zero", -4)),
                              (standing_bound, (name, "zero", 1)), (standing_bound, (name, "zero", -5)), (standing_bound,), (),
                              [*ring], (*ring, *ring, standing_bound), (("zero", "q", 0), ("q", "zero", -1)), (list(ring[0]), ring[1])):
                    some = self.grown(nodes, index, low, no=("ring", wrong))
                    expected = is_paper_strictly(first, second, world, kind, some)
                    self.assertIs(is_paper(first, second, world, kind, some), expected, wrong)
                    self.assertIs(expected, set(map(str, wrong)) == set(map(str, ring)) and isinstance(wrong, tuple) and is_ring(wrong))
                # The ring stands on the wrong side.
                self.assertIs(is_paper(first, second, world, kind, self.grown(nodes, index, low, yes=("ring", ring))), False)

    def test_a_ring_with_a_sum_of_0_is_none(self):
        nodes = [("ask", ("x", "row", 0), 1, 2), ("ring", (("x", "row", 0), ("row", "x", 0))), ("end", ("home", "row", 0))]
        self.assertIs(self.ask(nodes, Handler("move"), Handler("move")), False)

    def test_a_ring_in_the_place_of_an_end_to_which_scenes_lead(self):
        stays = Handler("move")
        nodes = [("ask", ("row", "home", 0), 1, 2), ("end", ("home", "row", 0)), ("ring", (("row", "home", 0), ("home", "row", -1)))]
        self.assertIs(self.ask(nodes, stays, stays), True)
        nodes[0] = ("ask", ("row", "home", -1), 1, 2)
        self.assertIs(self.ask(nodes, stays, stays), False)

    def test_an_end_written_by_zero_where_the_path_gives_the_number_its_value(self):
        stays = Handler("top")
        nodes = [("ask", ("row", "zero", 5), 1, 2), ("ask", ("row", "zero", 4), 3, 4), ("end", ("home", "row", 0)),
                 ("end", ("home", "row", 0)), ("end", ("home", "zero", 5))]
        self.assertIs(is_paper(stays, stays, "alone", "home", nodes), True)
        for place in (4, 6, -5, 0):
            self.assertIs(is_paper(stays, stays, "alone", "home", [*nodes[:4], ("end", ("home", "zero", place))]), False)
        c = 10 ** 29
        nodes = [("ask", ("row", "zero", c), 1, 2), ("ask", ("zero", "row", -c), 3, 4), ("end", ("home", "row", 0)),
                 ("end", ("home", "zero", c)), ("end", ("home", "row", 0))]
        self.assertIs(is_paper(stays, stays, "alone", "home", nodes), True)
        nodes[3] = ("end", ("home", "zero", c + 1))
        self.assertIs(is_paper(stays, stays, "alone", "home", nodes), False)

    def test_ends_to_which_no_scene_leads(self):
        # Row x stands at its place: no row of home is there.
        stays = Handler("top")
        nodes = [("ask", ("row", "x", -1), 1, 2), ("end", ("home", "row", 0)), ("ask", ("row", "x", 0), 3, 4),
                 ("end", ("other", "zero", 10 ** 29)), ("end", ("home", "row", 0))]
        for end in (None, ("to", "x", 3), ("other", "zero", 10 ** 29)):
            nodes[3] = ("end", end)
            self.assertIs(is_paper(stays, stays, "alone", "home", nodes), True)

    def shifted(self, nodes, by):
        return [("ask", node[1], node[2] + by, node[3] + by) if node[0] == "ask" else node for node in nodes]

    def test_two_copies_behind_one_ask(self):
        for first, second, world, kind, nodes in self.pairs():
            names = ("zero", *numbers_of(first.op, world, kind))
            for bound in ((names[0], names[-1], -7), (names[-1], names[1], 10 ** 29)):
                some = [("ask", bound, 1, len(nodes) + 1), *self.shifted(nodes, 1), *self.shifted(nodes, len(nodes) + 1)]
                self.assertIs(is_paper(first, second, world, kind, some), True)
                self.assertIs(is_paper(first, second, world, kind, tuple(some)), False)
                self.assertIs(is_paper(first, second, world, kind, some[:-1]), False)

    def test_drawn_changes(self):
        """Up to ten nodes are changed; what is built like a paper is held against tables and bounds."""
        draw = random.Random(7)
        seen = {True: 0, False: 0}
        for first, second, world, kind, nodes in list(self.pairs()) * 3:
            names = ("zero", *numbers_of(first.op, world, kind))
            some = copy.deepcopy(nodes)
            for _ in range(draw.randint(1, 4)):
                index = draw.randrange(len(some))
                if some[index][0] == "ask":
                    bound = draw.choice([some[index][1], opposite(some[index][1]), (*draw.sample(names, 2), draw.randint(-2, 2)),
                                         (*some[index][1][:2], some[index][1][2] + draw.choice((-1, 1)))])
                    some[index] = ("ask", bound, *draw.sample(some[index][2:], 2))
                elif draw.random() < 0.6:
                    some = self.grown(some, index, (*draw.sample(names, 2), draw.choice((0, 1, -1, -2, BIG // 10, -BIG // 10))))
                else:
                    lst = draw.choice(("home", "to", "other"))
                    some[index] = ("end", draw.choice([None, (lst, draw.choice(names), draw.randint(-1, 1))]))
            expected = is_paper_as_told(first, second, world, kind, some)
            self.assertIs(is_paper(first, second, world, kind, some), expected, (first.text, world, kind, some))
            seen[expected] += 1
        self.assertGreater(seen[True], 20)
        self.assertGreater(seen[False], 60)

    def test_nothing_is_changed(self):
        kept = copy.deepcopy(self.nodes)
        self.ask(self.nodes)
        self.assertEqual(self.nodes, kept)
        self.nodes.clear()
        self.assertEqual(paper(self.first, self.second, "within", "home"), kept)


def is_paper_strictly(first, second, world, kind, nodes):
    """Whether nodes, of which the rings may be built in a wrong way, are a paper."""
    for node in nodes:
        if node[0] == "ring" and not (isinstance(node[1], tuple) and is_ring(node[1])):
            return False
    return is_paper_as_told(first, second, world, kind, nodes)


if __name__ == "__main__":
    unittest.main()
