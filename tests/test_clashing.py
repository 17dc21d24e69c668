import itertools
import unittest
from unittest import mock

import reference
import reference_scenes
from lines import Drawn
from odd_objects import NO_NAMES
from rowsinplace import clashing as module
from rowsinplace import verdicts
from rowsinplace.clashing import clash
from rowsinplace.errors import BadVisit, Clash, TooMany
from rowsinplace.handlers import Handler, pattern
from rowsinplace.plain import OPERATIONS
from rowsinplace.scenes import Scene
from rowsinplace.verdicts import Verdict

VISITS = ("up", "down", "any")
MOST = {"move": 4, "swap": 5, "send": 5, "put": 6}
KEYS = {op: [key for total in range(MOST.get(op, 7) + 1) for key in reference_scenes.keys(op, total)] for op in OPERATIONS}


def fault_in(op, lines, key, visit):
    """What a call in a scene raises, with spots in the place of rows, or None."""
    rows, arguments = reference_scenes.rows(op, key), reference_scenes.arguments(op, key)
    spots = {reference_scenes.name(op, key, spot): spot for spot in reference_scenes.spots(op, key)}
    if visit == "any":
        found = reference.first_meeting(lines, rows, arguments)
    else:
        found = reference.call(lines, rows, arguments, visit)
        found = found[1:] if isinstance(found, tuple) else None
    return None if found is None else (found[0], spots[found[1]], spots[found[2]])


def told(verdict):
    return None if verdict.holds else (verdict.scene.key, verdict.fault)


class Clashes(unittest.TestCase):
    def assertClash(self, op, lines, visit):
        """A verdict is what a search through small scenes tells, as far as it goes."""
        verdict = clash(Handler(op, *lines), visit)
        self.assertIs(type(verdict), Verdict)
        found = None
        for key in KEYS[op]:
            found = fault_in(op, lines, key, visit)
            if found is not None:
                found = (key, found)
                break
        if found is None and not verdict.holds:
            self.assertGreater(verdict.scene.total, MOST.get(op, 7))
            self.assertEqual(fault_in(op, lines, verdict.scene.key, visit), verdict.fault)
            return "far"
        self.assertEqual(told(verdict), found, (op, lines, visit))
        return "holds" if found is None else "near"

    def assertAll(self, op, lines):
        found = [self.assertClash(op, lines, visit) for visit in VISITS]
        verdicts = [told(clash(Handler(op, *lines), visit)) for visit in VISITS]
        self.assertEqual(verdicts[2] is None, verdicts[0] is None and verdicts[1] is None)
        if verdicts[2] is not None:
            self.assertEqual(verdicts[2][0], min(verdict[0] for verdict in verdicts[:2] if verdict is not None))
        return found


class Searched(Clashes):
    def test_patterns_and_handlers_without_steps(self):
        for op in OPERATIONS:
            self.assertAll(op, pattern(op).text.split("\n")[1:])
            self.assertEqual(self.assertAll(op, []), ["holds"] * 3)

    def test_drawn_handlers(self):
        for op, seed in itertools.product(OPERATIONS, range(600, 612)):
            self.assertAll(op, Drawn(seed, (2, 9)[seed % 2]).handler(op, 6, 4))

    def test_handlers_that_are_nearly_right(self):
        found = []
        for op, seed in itertools.product(OPERATIONS, range(700, 725)):
            found += self.assertAll(op, Drawn(seed, (9, 3, 5)[seed % 3]).nearly(op, 4))
        self.assertGreater(found.count("holds"), 20)
        self.assertGreater(found.count("near"), 200)
        self.assertGreater(found.count("far"), 0)

    def test_the_search_through_few_scenes_only_saves_time(self):
        for op, seed, visit in itertools.product(OPERATIONS, range(900, 912), VISITS):
            handler = Handler(op, *Drawn(seed, 4).nearly(op, 4))
            found = told(clash(handler, visit))
            with mock.patch.object(verdicts, "FEW", -1):
                self.assertEqual(told(clash(handler, visit)), found)

    def test_faults_that_may_be_far(self):
        found = []
        for op, seed in itertools.product(("put", "add", "take", "top", "bottom"), range(1000, 1040)):
            lines = self.quiet(op, Drawn(seed, 9))
            if reference.first_wrong_line(op, lines) is None and reference.comparisons(lines) <= 4:
                found += self.assertAll(op, lines)
        self.assertGreater(found.count("far"), 30)
        self.assertGreater(found.count("holds"), 30)

    def quiet(self, op, drawn):
        """Lines that clash perhaps far from the ends of the lists alone."""
        draw = drawn.draw
        lst = "to" if op in ("put", "add") else "home"
        by = draw.choice(("1", "-1"))
        sign, base = (">", draw.choice((f"count {lst} -", "2 +", "x +")[:2 + (lst == "home")])) if by == "1" else ("<", "0 -")
        start = f"shift {lst} by {by} where place {sign} "
        edge = {"count": f"count {lst} - {draw.randint(1, 9)}", "2": str(draw.randint(2, 9)), "x": f"x + {draw.randint(1, 9)}",
                "0": str(draw.randint(2, 9))}[base.split(" ")[0]]
        guard = draw.choice(("", "", f"when count {lst} > {draw.randint(1, 9)} do "))
        return [guard + start + edge, *draw.choice(([], [f"write x {lst} count {lst} + {draw.randint(2, 9)}"]))]


class Told(Clashes):
    """What is told of some handlers, to the letter."""

    def test_a_shift_that_meets_or_makes_way(self):
        up = Handler("put", "shift to by 1 where place >= k", "write x to k")
        self.assertEqual(told(clash(handler=up, visit="up")), ((2, 0, 0, 2, 0, 0, 1), (0, ("to", 1), ("to", 2))))
        self.assertIsNone(told(clash(up, "down")))
        self.assertEqual(told(clash(up, "any")), ((2, 0, 0, 2, 0, 0, 1), (0, ("to", 1), ("to", 2))))
        down = Handler("take", "drop x", "shift home by -1 where place > old x")
        self.assertIsNone(told(clash(down, "up")))
        self.assertEqual(told(clash(down, "down")), ((3, 0, 3, 0, 1, 0, 0), (1, ("home", 3), ("home", 2))))
        self.assertEqual(told(clash(down, "any")), ((3, 0, 3, 0, 1, 0, 0), (1, ("home", 3), ("home", 2))))

    def test_the_first_row_in_the_order_of_up(self):
        rows = Handler("top", "shift home by 1")
        self.assertEqual(told(clash(rows, "up"))[1], (0, ("home", 1), ("home", 2)))
        self.assertEqual(told(clash(rows, "any"))[1], (0, ("home", 1), ("home", 2)))
        self.assertIsNone(told(clash(rows, "down")))
        self.assertAll("move", ["shift all by -1"])
        self.assertAll("swap", ["shift all by 2"])
        self.assertAll("send", ["shift all by 1 where place > 1 except x"])

    def test_writes(self):
        self.assertEqual(told(clash(Handler("top", "write x home 1"), "any")), ((2, 0, 2, 0, 2, 0, 0), (0, ("home", 2), ("home", 1))))
        self.assertEqual(told(clash(Handler("add", "write x to 1"), "down")), ((1, 0, 0, 1, 0, 0, 0), (0, ("new", 0), ("to", 1))))
        for visit in VISITS:
            # A row that is written where it is, with no other row there.
            self.assertIsNone(told(clash(Handler("top", "write x home x"), visit)))
            self.assertIsNone(told(clash(Handler("top", "write x home old x", "write x home x"), visit)))
            self.assertIsNone(told(clash(Handler("add", "write x to count to + 1"), visit)))
            self.assertIsNone(told(clash(Handler("swap", "write x to 0", "write y home old x", "write x to old y"), visit)))
        self.assertEqual(told(clash(pattern("swap"), "up")), ((2, 1, 1, 1, 1, 1, 0), (0, ("home", 1), ("to", 1))))
        self.assertEqual(told(clash(Handler("swap", "write y home old x"), "up")), ((2, 1, 1, 1, 1, 1, 0), (0, ("to", 1), ("home", 1))))

    def test_guards_and_words_of_the_beginning(self):
        lines = ["write x home count home + 1", "shift home by -1 where place > old x", "when old count home > 4 do write x home old last home - 1"]
        self.assertEqual(self.assertAll("bottom", lines), ["near", "near", "near"])
        lines = ["write x home 0", "when old last home > 7 do shift home by -1 where place = 1"]
        verdict = clash(Handler("top", *lines), "up")
        self.assertEqual(told(verdict), ((8, 0, 8, 0, 2, 0, 0), (1, ("home", 1), ("home", 2))))
        self.assertEqual(self.assertAll("top", lines), ["far"] * 3)

    def test_far_scenes(self):
        lines = ["shift to by 1 where place > 9 and place < count to - 3"]
        for visit in VISITS:
            self.assertEqual(told(clash(Handler("add", *lines), visit)), ((14, 0, 0, 14, 0, 0, 0), (0, ("to", 10), ("to", 11))))
        lines = ["shift to by 3 where place > 9"]
        self.assertEqual(told(clash(Handler("add", *lines), "up")), ((13, 0, 0, 13, 0, 0, 0), (0, ("to", 10), ("to", 13))))
        self.assertIsNone(told(clash(Handler("add", *lines), "down")))
        # Row x has been moved when its place is read.
        lines = ["shift all by 2", "shift home by -1 where place > x + 8"]
        self.assertEqual(told(clash(Handler("top", *lines), "down")), ((10, 0, 10, 0, 1, 0, 0), (1, ("home", 10), ("home", 9))))
        for visit in VISITS:
            verdict = clash(Handler("top", "write x home x + 9"), visit)
            self.assertEqual(told(verdict), ((10, 0, 10, 0, 1, 0, 0), (0, ("home", 1), ("home", 10))))
        lines = ["shift home by -3", "shift home by -3", "shift home by -3", "write x home x + 9", "when old x > 9 do write x home 1"]
        for visit in VISITS:
            self.assertClash("top", lines, visit)


class Wrong(unittest.TestCase):
    def test_the_function_stands_in_the_module(self):
        self.assertEqual(module.clash.__module__, "rowsinplace.clashing")

    def test_bad_visit_ahead_of_too_many(self):
        many = Handler("take", "shift home by 1 where place = 1 and place = 2 and place = 3")
        for handler in (many, pattern("take")):
            for thing in NO_NAMES + ["Up", ["up"], ("any",), "up ", "upany"]:
                with self.assertRaises(BadVisit) as caught:
                    clash(handler, thing)
                self.assertEqual(caught.exception.visit, thing)

    def test_too_many_comparisons(self):
        four = Handler("take", "shift home by 1 where place = 1 and place = 2")
        five = Handler("take", "shift home by 1 where place = 1 and place = 2", "shift home by 1 where place > 1")
        for visit in VISITS:
            self.assertIs(type(clash(four, visit)), Verdict)
            with self.assertRaises(TooMany) as caught:
                clash(five, visit)
            self.assertEqual(caught.exception.limit, 4)

    def test_a_clash_on_the_board_of_the_scene(self):
        for op, seed, visit in itertools.product(OPERATIONS, range(30), ("up", "down")):
            handler = Handler(op, *Drawn(seed, 3).handler(op, 6, 4))
            verdict = clash(handler, visit)
            if not verdict.holds:
                scene, (step, spot, other) = verdict.scene, verdict.fault
                with self.assertRaises(Clash) as caught:
                    handler(scene.as_board(), **scene.arguments(), visit=visit)
                self.assertEqual((caught.exception.step, caught.exception.row, caught.exception.other),
                                 (step, scene.name_of(spot), scene.name_of(other)))
                self.assertIs(type(scene), Scene)


if __name__ == "__main__":
    unittest.main()
