"""Regions and runs: what tables and verdicts rest on."""
import itertools
import random
import unittest

from rowsinplace.bounds import Bounds
from rowsinplace.fields import scene_field
from rowsinplace.plain import OPERATIONS
from rowsinplace.regions import least, narrowed, parted, whole
from rowsinplace.scenes import worlds_of
from rowsinplace.tables import kinds_of, numbers_of
from test_tables import apart, standing

NAMES = ("zero", "a", "b", "c")


class Regions(unittest.TestCase):
    def test_held_against_bounds(self):
        draw = random.Random(11)
        empty = 0
        for _ in range(300):
            bounds = [("zero", name, 0) for name in NAMES[1:]]
            region = whole(3)
            for bound in bounds:
                region = narrowed(region, self.ranked(bound))
            for _ in range(8):
                bound = (*draw.sample(NAMES, 2), draw.randint(-3, 3))
                system = Bounds(*bounds, bound)
                yes, no = parted(region, self.ranked(bound))
                self.assertEqual(yes, narrowed(region, self.ranked(bound)))
                u, v, c = bound
                self.assertEqual(no, narrowed(region, self.ranked((v, u, -c - 1))))
                self.assertEqual(yes is None, system.least() is None)
                self.assertEqual(no is None, bound in Bounds(*bounds))
                if yes is None:
                    empty += 1
                    continue
                bounds, region = [*bounds, bound], yes
                self.assertRegion(region, system)
        self.assertGreater(empty, 100)

    def ranked(self, bound):
        return (NAMES.index(bound[0]), NAMES.index(bound[1]), bound[2])

    def assertRegion(self, region, system):
        self.assertEqual({name: 0 for name in NAMES[1:]} | system.least(), dict(zip(NAMES[1:], least(region)[1:])))
        for u, v in itertools.permutations(range(4), 2):
            if region[u][v] < 100:
                self.assertIn((NAMES[u], NAMES[v], region[u][v]), system)
                self.assertNotIn((NAMES[u], NAMES[v], region[u][v] - 1), system)
            else:
                self.assertNotIn((NAMES[u], NAMES[v], 100), system)

    def test_a_number_beside_itself(self):
        region = whole(2)
        self.assertEqual(parted(region, (1, 1, 0)), (region, None))
        self.assertEqual(parted(region, (1, 1, -1)), (None, region))
        self.assertIsNone(narrowed(region, (2, 2, -1)))

    def test_nothing_is_changed(self):
        region = whole(2)
        parted(region, (1, 2, -1))
        narrowed(region, (2, 1, -1))
        self.assertEqual(region, whole(2))


class Fields(unittest.TestCase):
    def test_starts_are_the_scenes_and_the_rows_of_a_kind(self):
        for op in OPERATIONS:
            for world, kind in [(world, kind) for world in worlds_of(op) for kind in kinds_of(op, world)]:
                field = scene_field(op, world, (kind,) if kind in ("home", "to", "other") else ())
                expected = [name for name in numbers_of(op, world, kind) if name != "other" or kind == "other"]
                self.assertEqual(sorted(field.names), sorted(["zero", *expected]))
                starts = [branch.region for branch in field.starts()]
                self.assertStarts(field.names, starts, standing(op, world, kind), apart(op, world, kind))

    def assertStarts(self, names, starts, bounds, pairs):
        """Numbers lie in one start if they are those of a scene, and in none otherwise."""
        for numbers in itertools.product(range(4), repeat=len(names) - 1):
            worths = {"zero": 0, "other": 0, **dict(zip(names[1:], numbers))}
            right = all(worths[u] <= worths[v] + c for u, v, c in bounds) and all(worths[u] != worths[v] for u, v in pairs)
            ways = [0, *numbers]
            inside = [region for region in starts if all(
                ways[u] <= ways[v] + region[u][v] for u, v in itertools.permutations(range(len(ways)), 2))]
            self.assertEqual(len(inside), int(right), (names, numbers))

    def test_two_rows_of_a_list(self):
        field = scene_field("swap", "within", ("home", "home"))
        starts = field.starts()
        self.assertEqual(len(starts), 12)
        for branch in starts:
            row, following = field.ranks["row"], field.ranks["next"]
            self.assertLess(branch.region[row][following], 0)


if __name__ == "__main__":
    unittest.main()
