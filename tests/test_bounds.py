import itertools
import random
import unittest

from odd_objects import BIG, NESTED, NO_NAMES
from rowsinplace import bounds as module
from rowsinplace.bounds import Bounds, is_ring, opposite
from rowsinplace.errors import BadBound

GREAT = 10 ** 29 - 1
NO_BOUNDS = NO_NAMES + [
    "zero", ("a", "b"), ("a", "b", 1, 1), ["a", "b", 1], ("a", "a", 1), ("zero", "zero", 0), ("A", "b", 1), ("a", "", 1),
    ("a", "abcdefghi", 1), ("a", "b", True), ("a", "b", False), ("a", "b", None), ("a", "b", "1"), ("a", "b", (1,)),
    (1, "b", 1), ("a", 2, 1), (("a",), "b", 1), (["a"], "b", 1), ("a", ["b"], 1), (None, None, None), ("a", "b1", 1),
    ("a b", "c", 1), (("a", "b", 1),), [("a", "b", 1)], (True, "b", 1), NESTED,
]


def closed(bounds, names):
    """The least c with u <= v + c for all pairs that follow, by Floyd and Warshall; None without a solution."""
    far = {(u, v): 0 if u == v or u == "zero" else None for u in names for v in names}
    for u, v, c in bounds:
        if far[u, v] is None or c < far[u, v]:
            far[u, v] = c
    for middle, u, v in itertools.product(names, repeat=3):
        if far[u, middle] is not None and far[middle, v] is not None:
            c = far[u, middle] + far[middle, v]
            if far[u, v] is None or c < far[u, v]:
                far[u, v] = c
    return None if any(far[name, name] < 0 for name in names) else far


def drawn(draw, names, most, widest):
    """A system, often close to having no solution."""
    found = []
    for _ in range(draw.randint(0, most)):
        u, v = draw.sample(names, 2)
        found.append((u, v, draw.randint(-widest, widest)))
    return found


class Forms(unittest.TestCase):
    def test_the_names_stand_in_the_module(self):
        for name in ("Bounds", "opposite", "is_ring"):
            self.assertEqual(vars(module)[name].__module__, "rowsinplace.bounds")
        for name in ("__init__", "least", "ring", "__contains__", "__add__", "__len__"):
            self.assertIn(name, vars(Bounds))

    def test_opposite(self):
        self.assertEqual(opposite(("a", "b", 3)), ("b", "a", -4))
        self.assertEqual(opposite(bound=("zero", "b", -1)), ("b", "zero", 0))
        self.assertEqual(opposite(("a", "b", BIG)), ("b", "a", -BIG - 1))
        for bound in (("a", "b", 0), ("row", "zero", -BIG)):
            self.assertEqual(opposite(opposite(bound)), bound)
        for a, b, c in itertools.product(range(-4, 5), repeat=3):
            u, v, d = opposite(("a", "b", c))
            self.assertEqual((a <= b + c), not (b <= a + d))

    def test_bad_bound(self):
        for thing in NO_BOUNDS:
            for index, things in enumerate(([thing], [("a", "b", 1), thing], [("a", "b", 1), ("b", "zero", 1), thing, thing])):
                with self.assertRaises(BadBound) as caught:
                    Bounds(*things)
                self.assertEqual(caught.exception.index, index)

    def test_length_and_sum(self):
        self.assertEqual(len(Bounds()), 0)
        system = Bounds(("a", "b", 1), ("a", "b", 1))
        self.assertEqual(len(system), 2)
        more = system + ("a", "b", -5)
        self.assertIs(type(more), Bounds)
        self.assertEqual((len(more), len(system)), (3, 2))
        self.assertEqual(more.least(), {"a": 0, "b": 5})
        self.assertEqual(system.least(), {"a": 0, "b": 0})
        with self.assertRaises(BadBound):
            system + ("a", "a", 0)


class Solutions(unittest.TestCase):
    def test_least(self):
        for bounds, least in (
            ([], {}), ([("a", "b", 0)], {"a": 0, "b": 0}), ([("a", "b", -3)], {"a": 0, "b": 3}),
            ([("zero", "a", -4), ("a", "b", -1)], {"a": 4, "b": 5}), ([("zero", "zero2"[:4] + "o", -4)], {"zeroo": 4}),
            ([("a", "zero", 0)], {"a": 0}), ([("a", "zero", 3), ("zero", "a", -3)], {"a": 3}), ([("a", "zero", -1)], None),
            ([("a", "zero", 3), ("zero", "a", -4)], None), ([("a", "b", -1), ("b", "a", 0)], None),
            ([("a", "b", -1), ("b", "a", 1)], {"a": 0, "b": 1}), ([("zero", "a", -GREAT), ("a", "b", -GREAT)], {"a": GREAT, "b": 2 * GREAT}),
            ([("a", "b", GREAT), ("zero", "a", -GREAT - 1)], {"a": GREAT + 1, "b": 1}),
            ([("a", "b", -GREAT), ("b", "zero", GREAT - 1)], None),
        ):
            self.assertEqual(Bounds(*bounds).least(), least, bounds)
            self.assertEqual(Bounds(*reversed(bounds)).least(), least, bounds)
            if least is None:
                self.assertRing(bounds)
            else:
                self.assertIsNone(Bounds(*bounds).ring())

    def assertRing(self, bounds):
        ring = Bounds(*bounds).ring()
        self.assertIs(type(ring), list)
        self.assertIs(is_ring(ring), True)
        self.assertIs(is_ring(tuple(ring)), True)
        names = {name for bound in bounds for name in bound[:2]} - {"zero"}
        for bound in ring:
            self.assertTrue(bound in bounds or bound in [("zero", name, 0) for name in names], (bounds, ring))

    def test_rings_that_need_the_bounds_of_names(self):
        for bounds in ([("a", "zero", -1)], [("a", "b", -1), ("b", "zero", 0)], [("a", "b", -2), ("b", "zero", 1)],
                       [("a", "b", 5), ("b", "c", -7), ("c", "zero", 1)]):
            self.assertRing(bounds)
            self.assertIsNone(Bounds(*bounds).least())

    def test_held_against_floyd_and_warshall(self):
        draw = random.Random(4)
        without = 0
        for number in range(1500):
            names = ["zero", "a", "b", "c", "row", "abcdefgh", "k", "x"][:draw.randint(2, 8)]
            widest = draw.choice((2, 4, 10, GREAT))
            bounds = drawn(draw, names, 14, widest)
            used = sorted({name for bound in bounds for name in bound[:2]} | {"zero"})
            far = closed(bounds, used)
            system = Bounds(*bounds)
            if far is None:
                without += 1
                self.assertIsNone(system.least())
                self.assertRing(bounds)
            else:
                self.assertEqual(system.least(), {name: -far["zero", name] for name in used if name != "zero"})
                self.assertIsNone(system.ring())
        self.assertGreater(without, 300)
        self.assertLess(without, 1300)

    def test_long_chains(self):
        names = ["zero", *"abcdefghijklmn"]
        for last in (0, 1):
            bounds = [(u, v, -GREAT) for u, v in zip(names, names[1:])]
            bounds.append(("n", "zero", 14 * GREAT - last))
            for some in (bounds, bounds[::-1], bounds[7:] + bounds[:7], bounds * 2):
                if last:
                    self.assertRing(some)
                else:
                    self.assertEqual(Bounds(*some).least()["n"], 14 * GREAT)
        bounds = [(u, v, -1) for u, v in zip(names[1:], names[2:])] + [("n", "a", 12)]
        self.assertRing(bounds)
        self.assertEqual(Bounds(*bounds[:-1], ("n", "a", 13)).least()["n"], 13)

    def test_forty_bounds(self):
        draw = random.Random(6)
        names = ["zero", *"abcdefghijklmn"]
        for _ in range(20):
            bounds = [(*draw.sample(names, 2), draw.randint(-20, 60)) for _ in range(40)]
            used = sorted({name for bound in bounds for name in bound[:2]} | {"zero"})
            far = closed(bounds, used)
            self.assertEqual(Bounds(*bounds).least() is None, far is None)
            if far is None:
                self.assertRing(bounds)

    def test_nothing_is_shared(self):
        system = Bounds(("a", "zero", -1))
        system.ring().clear()
        self.assertTrue(is_ring(system.ring()))
        system = Bounds(("a", "b", -1))
        system.least()["a"] = 7
        self.assertEqual(system.least(), {"a": 0, "b": 1})


class Holding(unittest.TestCase):
    def test_in(self):
        system = Bounds(("zero", "a", -3), ("a", "b", -2), ("b", "zero", 9))
        for bound, found in (
            (("zero", "a", -3), True), (("zero", "a", -4), False), (("zero", "b", -5), True), (("zero", "b", -6), False),
            (("a", "zero", 7), True), (("a", "zero", 6), False), (("a", "b", -2), True), (("a", "b", -3), False),
            (("b", "a", 6), True), (("b", "a", 5), False), (("b", "zero", BIG), True),
        ):
            self.assertIs(bound in system, found, bound)

    def test_any_object_in_a_system(self):
        for system in (Bounds(), Bounds(("a", "b", 1)), Bounds(("a", "zero", -1))):
            for thing in NO_BOUNDS:
                self.assertIs(thing in system, False)

    def test_names_that_the_system_does_not_have(self):
        system = Bounds(("zero", "a", -3), ("a", "zero", 5))
        for bound, found in (
            (("zero", "q", 0), True), (("zero", "q", 1), True), (("zero", "q", -1), False), (("q", "zero", BIG), False),
            (("q", "a", 9), False), (("a", "q", 5), True), (("a", "q", 4), False), (("q", "r", 5), False), (("r", "q", -5), False),
        ):
            self.assertIs(bound in system, found, bound)
        self.assertIs(("zero", "q", 0) in Bounds(), True)
        self.assertIs(("zero", "q", -1) in Bounds(), False)

    def test_every_bound_holds_without_a_solution(self):
        system = Bounds(("a", "b", -1), ("b", "a", 0))
        for bound in (("a", "b", -BIG), ("b", "a", -BIG), ("q", "r", -BIG), ("zero", "q", -5), ("q", "zero", -1)):
            self.assertIs(bound in system, True)

    def test_held_against_floyd_and_warshall(self):
        draw = random.Random(7)
        for number in range(400):
            names = ["zero", "a", "b", "c", "d"][:draw.randint(2, 5)]
            bounds = drawn(draw, names, 8, 4)
            far = closed(bounds, names)
            system = Bounds(*bounds)
            for u, v in itertools.permutations(names, 2):
                for c in range(-9, 10, 3):
                    expected = far is None or (far[u, v] is not None and far[u, v] <= c)
                    self.assertIs((u, v, c) in system, expected, (bounds, u, v, c))


class Rings(unittest.TestCase):
    def test_rings(self):
        for ring in ([("a", "b", -1), ("b", "a", 0)], (("a", "b", 3), ("b", "zero", -2), ("zero", "a", -2)),
                     [("a", "b", -1), ("b", "a", 0), ("a", "b", -1), ("b", "a", 0)], [("a", "b", -BIG), ("b", "a", BIG - 1)],
                     [("a", "b", 0), ("b", "c", 0), ("c", "b", -3), ("b", "a", 2)]):
            self.assertIs(is_ring(ring), True, ring)
            self.assertIs(is_ring(thing=ring[1:] + ring[:1]), True, ring)

    def test_what_is_no_ring(self):
        for thing in NO_BOUNDS + [
            [("a", "b", -1)], [("a", "b", -1), ("b", "a", 1)], [("a", "b", 0), ("b", "a", 0)], [("a", "b", -1), ("b", "c", -1)],
            [("b", "a", -1), ("b", "a", -1)], [("a", "b", -1), ("c", "d", -1)], [("a", "b", -1), ("b", "c", -1), ("a", "c", -1)],
            [("a", "b", -1), ("b", "a", True)], [("a", "b", -1), ["b", "a", 0]], [("a", "b", -1), None], [None, ("a", "b", -1)],
            [("a", "a", -1)], (("a", "b", -1), ("b", "a", 0), ()), [[("a", "b", -1), ("b", "a", 0)]], {"a": 1},
            [("a", "b", -2), ("b", "a", 0), ("c", "d", 0), ("d", "c", 0)], [("a", "b", -1), ("b", "c", 0), ("d", "a", 0)],
        ]:
            self.assertIs(is_ring(thing), False, thing)

    def test_long_rings(self):
        names = "abcdefghijklm"
        ring = [(u, v, 1) for u, v in zip(names, names[1:])] + [("m", "a", -12)]
        self.assertIs(is_ring(ring), False)
        self.assertIs(is_ring(ring * 4 + ring[:-1] + [("m", "a", -13)]), True)


if __name__ == "__main__":
    unittest.main()
