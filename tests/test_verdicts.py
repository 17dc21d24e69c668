import itertools
import unittest
from unittest import mock

import reference_scenes
from lines import Drawn
from rowsinplace import verdicts as module
from rowsinplace.errors import OtherOperation, TooMany
from rowsinplace.handlers import Handler, pattern
from rowsinplace.plain import OPERATIONS
from rowsinplace.scenes import WORLDS, Scene, due, fate
from rowsinplace.verdicts import Verdict, alike, dense, right

# How far all scenes are searched through.
MOST = {"move": 5, "swap": 5, "send": 6, "put": 7}
KEYS = {op: [key for total in range(MOST.get(op, 8) + 1) for key in reference_scenes.keys(op, total)] for op in OPERATIONS}


def told(verdict):
    """A verdict as a value: None if it holds."""
    if verdict.scene is None:
        return None
    return (verdict.scene.key, verdict.fault)


def searched(op, fault):
    """The first scene of small totals that has a fault, with it, or None."""
    for key in KEYS[op]:
        found = fault(key)
        if found is not None:
            return (key, found)
    return None


class Verdicts(unittest.TestCase):
    def assertSearched(self, op, verdict, fault):
        """A verdict is what a search tells, as far as it goes."""
        found = searched(op, fault)
        self.assertIs(verdict.holds, verdict.scene is None)
        self.assertIs(bool(verdict), verdict.holds)
        if found is None and not verdict.holds:
            self.assertGreater(verdict.scene.total, MOST.get(op, 8))
            self.assertEqual(fault(verdict.scene.key), verdict.fault)
            return "far"
        self.assertEqual(told(verdict), found)
        return "holds" if found is None else "near"

    def assertRight(self, op, lines):
        others = pattern(op).text.split("\n")[1:]
        fault = lambda key: reference_scenes.first_difference(op, key, lines, others)
        return self.assertSearched(op, right(Handler(op, *lines)), fault)

    def assertDense(self, op, lines):
        return self.assertSearched(op, dense(Handler(op, *lines)), lambda key: reference_scenes.first_gap(op, key, lines))

    def assertAlike(self, op, lines, others):
        verdict = alike(Handler(op, *lines), Handler(op, *others))
        return self.assertSearched(op, verdict, lambda key: reference_scenes.first_difference(op, key, lines, others))


class Values(unittest.TestCase):
    def test_the_names_stand_in_the_module(self):
        for name in ("right", "alike", "dense", "Verdict"):
            self.assertEqual(vars(module)[name].__module__, "rowsinplace.verdicts")
        for name in ("__init__", "holds", "__bool__"):
            self.assertIn(name, vars(Verdict))

    def test_a_verdict(self):
        verdict = Verdict(None, None)
        self.assertEqual((verdict.scene, verdict.fault), (None, None))
        self.assertIs(verdict.holds, True)
        self.assertIs(bool(verdict), True)
        scene = Scene("add", "alone")
        verdict = Verdict(scene=scene, fault=(("new", 0), None, ("to", 1)))
        self.assertIs(verdict.scene, scene)
        self.assertEqual(verdict.fault, (("new", 0), None, ("to", 1)))
        self.assertIs(verdict.holds, False)
        self.assertIs(bool(verdict), False)

    def test_the_example_of_the_document(self):
        put = Handler("put", "shift to by 1 where place > k", "write x to k")
        verdict = right(handler=put)
        self.assertEqual([verdict.holds, verdict.scene.key, verdict.fault],
                         [False, (1, 0, 0, 1, 0, 0, 1), (("to", 1), ("to", 1), ("to", 2))])
        self.assertIs(type(verdict), Verdict)
        self.assertIs(type(verdict.scene), Scene)
        self.assertEqual((verdict.scene.op, verdict.scene.world), ("put", "alone"))
        self.assertIs(bool(right(Handler("put", "shift to by 1 where place >= k", "write x to k"))), True)


class Patterns(Verdicts):
    def test_each_is_right_alike_to_itself_and_dense(self):
        for op in OPERATIONS:
            handler = pattern(op)
            lines = handler.text.split("\n")[1:]
            for verdict in (right(handler), alike(first=handler, second=handler), dense(handler=handler)):
                self.assertIs(verdict.holds, True)
                self.assertEqual((verdict.scene, verdict.fault), (None, None))
            self.assertEqual(self.assertRight(op, lines), "holds")
            self.assertEqual(self.assertDense(op, lines), "holds")

    def test_handlers_without_steps(self):
        for op in OPERATIONS:
            self.assertEqual(self.assertRight(op, []), "near")
            self.assertEqual(self.assertDense(op, []), "holds")
            self.assertEqual(self.assertAlike(op, [], []), "holds")


class Searched(Verdicts):
    def test_drawn_handlers(self):
        for op, seed in itertools.product(OPERATIONS, range(12)):
            lines = Drawn(seed, 3).handler(op, 6, (4, 6)[seed % 2])
            self.assertRight(op, lines)
            if seed % 2 == 0:
                self.assertDense(op, lines)

    def test_handlers_that_are_nearly_right(self):
        found = []
        for op, seed in itertools.product(OPERATIONS, range(100, 140)):
            lines = Drawn(seed, (9, 3, 5)[seed % 3]).nearly(op, 4)
            found.append(self.assertRight(op, lines))
            found.append(self.assertDense(op, lines))
        self.assertGreater(found.count("holds"), 200)
        self.assertGreater(found.count("near"), 200)
        self.assertGreater(found.count("far"), 3)

    def test_two_handlers(self):
        found = []
        for op, seed in itertools.product(OPERATIONS, range(200, 230)):
            lines, others = Drawn(seed, 9).nearly(op, 3), Drawn(seed, 2).nearly(op, 3)
            found.append(self.assertAlike(op, lines, others))
        self.assertGreater(found.count("holds"), 60)
        self.assertGreater(found.count("near"), 60)

    def test_the_search_through_few_scenes_only_saves_time(self):
        for op, seed in itertools.product(OPERATIONS, range(400, 430)):
            first, second = [Handler(op, *Drawn(number, 4).nearly(op, 3)) for number in (seed, seed + 500)]
            found = [told(right(first)), told(dense(first)), told(alike(first, second))]
            with mock.patch.object(module, "FEW", -1):
                self.assertEqual([told(right(first)), told(dense(first)), told(alike(first, second))], found)

    def test_words_that_mean_the_same_on_dense_boards(self):
        for op, lines, others in (
            ("bottom", ["write x home old last home"], ["write x home old count home"]),
            ("bottom", ["write x home count home"], ["write x home old count home"]),
            ("send", ["write x to count to"], ["write x to old count to"]),
            ("swap", ["write x to y"], ["write x to old y"]),
            ("take", ["drop x", "shift home by -1 where place > old x"], ["shift home by -1 where place > x", "drop x"]),
            ("top", ["shift home by 1 where place < x"], ["shift home by 1 where place <= x - 1 and place < x"]),
            ("up", ["when x <= 1 do shift home by 1"], ["when x = 1 do shift home by 1"]),
        ):
            self.assertEqual(self.assertAlike(op, lines, others), "holds", lines)
        for op, lines, others in (
            ("take", ["drop x", "shift home by -1 where place > count home"], ["shift home by -1 where place > old count home", "drop x"]),
            ("send", ["write x to 1", "shift to by 1 where place = count to"], ["write x to 1", "shift to by 1 where place = old count to"]),
            ("take", ["shift home by 1", "write x home x"], ["shift home by 1", "write x home old x"]),
            ("move", ["drop x"], []),
        ):
            self.assertEqual(self.assertAlike(op, lines, others), "near", lines)


class Far(Verdicts):
    """Faults that show in great scenes alone."""

    def test_wrong_beyond_a_place(self):
        verdict = right(Handler("take", "shift home by -1 where place > x and place < 9", "shift home by -1 where place > 9", "drop x"))
        self.assertEqual(told(verdict), ((9, 0, 9, 0, 1, 0, 0), (("home", 9), ("home", 9), ("home", 8))))
        put = ["shift to by 1 where place >= k", "write x to k"]
        verdict = right(Handler("put", *put, "shift to by 1 where place > k + 9"))
        self.assertEqual(told(verdict), ((10, 0, 0, 10, 0, 0, 1), (("to", 10), ("to", 12), ("to", 11))))
        verdict = dense(Handler("put", *put, "shift to by 1 where place > k + 9"))
        self.assertEqual(told(verdict), ((10, 0, 0, 10, 0, 0, 1), ("high", ("to", 10))))
        verdict = right(Handler("put", *put, "when k > 9 do write x to k - 1"))
        self.assertEqual(told(verdict), ((9, 0, 0, 9, 0, 0, 10), (("new", 0), ("to", 9), ("to", 10))))
        verdict = dense(Handler("put", *put, "when k > 9 do write x to k - 1"))
        self.assertEqual(told(verdict), ((9, 0, 0, 9, 0, 0, 10), ("double", ("new", 0), ("to", 9))))

    def test_several_in_a_row(self):
        lines = ["write x home x + 9", "write x home x + 9", "write x home x + 9",
                 "when x < count home do shift home by 1 where place = 1 except x", "write x home old x"]
        verdict = dense(Handler("top", *lines))
        self.assertEqual(told(verdict), ((30, 0, 30, 0, 2, 0, 0), ("double", ("home", 1), ("home", 2))))
        lines = ["when old x > 3 do shift home by 1 where place < x", "when old x < count home - 3 do shift home by -1 where place < x"]
        self.assertEqual(self.assertDense("take", lines), "near")
        lines = ["shift to by -1 where place > 9", "shift to by 1 where place > 9", "write x to count to + 1"]
        self.assertEqual(told(right(Handler("add", *lines))), ((10, 0, 0, 10, 0, 0, 0), (("to", 10), ("to", 9), ("to", 10))))
        lines = ["write x to count to + 9", "write x to x + 9", "shift to by 3 where place > 9 and place > x - 9 except x",
                 "write x to old count to + 1"]
        self.assertTrue(right(Handler("add", *lines)))

    def test_guards_between_counts(self):
        lines = ["shift home by -1 where place > x", "when within do write x to count to", "when apart do write x to count to + 1",
                 "when old count home > old count to + 9 do shift to by 1 where place > 8"]
        verdict = right(Handler("send", *lines))
        self.assertEqual((verdict.scene.world, verdict.scene.key), ("apart", (26, 1, 18, 8, 1, 0, 0)))
        self.assertEqual(verdict.fault, (("home", 1), ("to", 10), ("to", 9)))

    def test_rows_x_and_y_meet(self):
        swap = ["write x to old y", "write y home old x"]
        for lines, found in (
            (["when old x > 9 do write y to x"], ((10, 2, 10, 0, 10, 1, 0), ("double", ("home", 1), ("home", 10)))),
            (["when old y > count home + 3 do write y to x"], ((6, 1, 1, 5, 1, 5, 0), ("double", ("home", 1), ("to", 5)))),
        ):
            self.assertEqual(told(dense(Handler("swap", *swap, *lines))), found)

    def test_too_low_beyond_a_place(self):
        for lines, found in (
            (["shift home by -1 where place < count home - 9"], ((11, 0, 11, 0, 1, 0, 0), ("low", ("home", 1)))),
            (["shift home by -3 where place > 2 and place < count home - 9"], ((13, 0, 13, 0, 1, 0, 0), ("low", ("home", 3)))),
            (["when x > 7 do write x home x - 9"], ((8, 0, 8, 0, 8, 0, 0), ("low", ("home", 8)))),
            (["when x > 7 do write x home x - 8"], ((8, 0, 8, 0, 8, 0, 0), ("low", ("home", 8)))),
            (["when x > 7 do write x home x - 7"], ((8, 0, 8, 0, 8, 0, 0), ("double", ("home", 1), ("home", 8)))),
            (["when x > 7 do write x home 0"], ((8, 0, 8, 0, 8, 0, 0), ("low", ("home", 8)))),
            (["when x > 7 do write x home 1"], ((8, 0, 8, 0, 8, 0, 0), ("double", ("home", 1), ("home", 8)))),
        ):
            self.assertEqual(told(dense(Handler("top", *lines))), found, lines)

    def test_the_list_other(self):
        add = Handler("add", "write x to count to + 1", "shift all by 1 where place > 9 except x")
        self.assertEqual(told(right(add)), ((10, 0, 0, 0, 0, 0, 0), (("other", 10), ("other", 11), ("other", 10))))
        self.assertEqual(told(dense(add)), ((10, 0, 0, 0, 0, 0, 0), ("high", ("other", 10))))
        lines = ["write x to count to + 1", "shift all by 1 where place > 4 and place < count to except x", "shift to by -1 where place > 5 except x"]
        verdict = right(Handler("add", *lines))
        self.assertEqual(told(verdict), ((10, 0, 0, 5, 0, 0, 0), (("other", 5), ("other", 6), ("other", 5))))
        self.assertEqual(told(dense(Handler("add", *lines[:2]))), ((5, 0, 0, 5, 0, 0, 0), ("double", ("new", 0), ("to", 5))))
        lines = ["write x to count to + 1", "shift all by 2 where place > count to + 3", "shift all by -2 where place > count to + 4"]
        self.assertTrue(dense(Handler("add", *lines)))

    def test_least_of_all_scenes_that_name_one_list(self):
        """Held against a search through all scenes with no row in the list other, far up."""
        far = 0
        for op, seed in itertools.product(("take", "top", "bottom", "up", "down", "add"), range(300, 420)):
            lines = Drawn(seed, 9).nearly(op, 4)
            if any("all" in line for line in lines):
                continue
            for verdict, fault in self.asked(op, lines):
                if not verdict.holds and verdict.scene.total > 3:
                    key = verdict.scene.key
                    self.assertEqual(fault(key), verdict.fault)
                    for total in range(4, min(key[0], 26) + 1):
                        for x in ([0] if op == "add" else range(1, total + 1)):
                            less = (total, 0, *([0, total] if op == "add" else [total, 0]), x, 0, 0)
                            if less < key:
                                self.assertIsNone(fault(less), (op, lines, key, less))
                    far += 1
        self.assertGreater(far, 10)

    def asked(self, op, lines):
        others = pattern(op).text.split("\n")[1:]
        return [(right(Handler(op, *lines)), lambda key: reference_scenes.first_difference(op, key, lines, others)),
                (dense(Handler(op, *lines)), lambda key: reference_scenes.first_gap(op, key, lines))]


class Faults(Verdicts):
    def test_the_first_spot_whose_fate_is_wrong(self):
        verdict = right(Handler("put", "shift to by 1 where place >= k"))
        self.assertEqual(told(verdict), ((0, 0, 0, 0, 0, 0, 1), (("new", 0), None, ("to", 1))))
        verdict = right(Handler("take"))
        self.assertEqual(told(verdict), ((1, 0, 1, 0, 1, 0, 0), (("home", 1), ("home", 1), None)))
        verdict = right(Handler("top", "shift home by 1 where place < x", "write x home 1", "shift all by 1 where place > 2"))
        self.assertEqual(told(verdict), ((3, 0, 3, 0, 1, 0, 0), (("home", 3), ("home", 4), ("home", 3))))
        verdict = right(Handler("add", "write x to count to + 1", "shift all by 1 except x"))
        self.assertEqual(told(verdict), ((1, 0, 0, 0, 0, 0, 0), (("other", 1), ("other", 2), ("other", 1))))

    def test_low_high_and_double(self):
        for op, lines, found in (
            ("top", ["shift home by -1"], ((1, 0, 1, 0, 1, 0, 0), ("low", ("home", 1)))),
            ("top", ["shift home by 1"], ((1, 0, 1, 0, 1, 0, 0), ("high", ("home", 1)))),
            ("top", ["write x home 1"], ((2, 0, 2, 0, 2, 0, 0), ("double", ("home", 1), ("home", 2)))),
            ("top", ["shift home by 1", "write x home 0"], ((1, 0, 1, 0, 1, 0, 0), ("low", ("home", 1)))),
            ("swap", ["write x to old y"], ((2, 1, 1, 1, 1, 1, 0), ("double", ("home", 1), ("to", 1)))),
            ("swap", ["write y home old x"], ((2, 1, 1, 1, 1, 1, 0), ("double", ("home", 1), ("to", 1)))),
            ("add", ["write x to 1"], ((1, 0, 0, 1, 0, 0, 0), ("double", ("new", 0), ("to", 1)))),
            ("add", ["write x to 0"], ((0, 0, 0, 0, 0, 0, 0), ("low", ("new", 0)))),
            ("add", ["write x to count to + 2"], ((0, 0, 0, 0, 0, 0, 0), ("high", ("new", 0)))),
            ("take", ["drop x"], ((2, 0, 2, 0, 1, 0, 0), ("high", ("home", 2)))),
            ("add", ["shift all by 1 where place = 1"], ((1, 0, 0, 0, 0, 0, 0), ("high", ("other", 1)))),
        ):
            self.assertEqual(told(dense(Handler(op, *lines))), found, lines)
            self.assertDense(op, lines)

    def test_the_double_with_the_first_spot(self):
        # Three rows at one place, and two pairs: the first spot possible, and then the first other.
        for op, lines in (
            ("take", ["shift home by -1 where place = 3", "shift home by -2 where place = 4"]),
            ("take", ["shift home by -3 where place > 4", "shift home by 1 where place < 3 and place > 1"]),
            ("move", ["shift all by -1 where place = 3", "shift home by -1 where place = 2"]),
            ("swap", ["write x to 1", "write y to 1"]), ("swap", ["write y home 2", "shift home by -1 where place > 2"]),
        ):
            self.assertEqual(self.assertDense(op, lines), "near", lines)

    def test_right_in_one_world_alone(self):
        move = ["shift home by -1 where place > x", "shift to by 1 where place >= k except x", "write x to k"]
        for world, total in (("within", 10), ("apart", 11)):
            verdict = right(Handler("move", *move, f"when {world} do shift home by -1 where place > 9"))
            self.assertEqual((verdict.scene.world, verdict.scene.total), (world, total))
        lines = ["write x to old y", "write y home old x", "when within do shift home by 1 where place > 2"]
        verdict = right(Handler("swap", *lines))
        self.assertEqual((verdict.scene.world, verdict.scene.total), ("within", 3))
        self.assertAlike("swap", lines, lines[:2])
        lines = ["write x to old y", "write y home old x", "when within do write y home y"]
        self.assertTrue(right(Handler("swap", *lines)))
        lines = ["write x to old y", "write y home old x", "when x = y do write x to x + 1"]
        verdict = right(Handler("swap", *lines))
        self.assertEqual((verdict.scene.world, verdict.scene.key), ("itself", (1, 3, 1, 0, 1, 0, 0)))


class Limits(unittest.TestCase):
    def of(self, comparisons, op="move"):
        """A handler that has so many comparisons."""
        lines = ["shift home by 1 where place > 1"] * min(comparisons, 5)
        lines += ["shift home by 1 where " + " and ".join(["place > 1"] * (comparisons - 5))] * (comparisons > 5)
        handler = Handler(op, *lines)
        self.assertEqual(handler.comparisons, comparisons)
        return handler

    def assertTooMany(self, limit, call):
        with self.assertRaises(TooMany) as caught:
            call()
        self.assertEqual(caught.exception.limit, limit)

    def test_limits(self):
        self.assertIs(type(right(self.of(6))), Verdict)
        self.assertTooMany(6, lambda: right(self.of(7)))
        self.assertIs(type(dense(self.of(4))), Verdict)
        self.assertTooMany(4, lambda: dense(self.of(5)))
        for many in range(7):
            self.assertIs(type(alike(self.of(many), self.of(6 - many))), Verdict)
        self.assertTooMany(6, lambda: alike(self.of(7), self.of(0)))
        self.assertTooMany(6, lambda: alike(self.of(0), self.of(7)))
        self.assertTooMany(6, lambda: alike(self.of(4), self.of(3)))
        equal = Handler("move", "shift home by 1 where place = 1 and place = 2 and place = 3", "shift to by 1 where place > 1")
        self.assertTooMany(6, lambda: right(equal))

    def test_other_operation_ahead_of_too_many(self):
        for op, other in itertools.permutations(OPERATIONS, 2):
            with self.assertRaises(OtherOperation) as caught:
                alike(Handler(op, *["shift all by 1 where place = 1"] * 6), Handler(other, *["shift all by 1 where place = 1"] * 6))
            self.assertEqual(caught.exception.op, other)


class Fitting(unittest.TestCase):
    def test_faults_are_fates(self):
        for op, seed in itertools.product(OPERATIONS, range(6)):
            handler = Handler(op, *Drawn(seed, 9).nearly(op, 6))
            verdict = right(handler)
            if not verdict.holds:
                spot, end, should = verdict.fault
                self.assertEqual(fate(handler, verdict.scene, spot), end)
                self.assertEqual(due(verdict.scene, spot), should)
                self.assertNotEqual(end, should)
                self.assertIn(verdict.scene.world, WORLDS)


if __name__ == "__main__":
    unittest.main()
