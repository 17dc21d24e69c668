import itertools
import unittest
from unittest import mock

import reference
import reference_scenes
from lines import Drawn
from odd_objects import NO_NAMES
from rowsinplace import clashing as module
from rowsinplace import verdicts
from rowsinplace.clashing import clash
from rowsinplace.errors import BadVisit, Clash, TooMany
from rowsinplace.handlers import Handler, pattern
from rowsinplace.plain import OPERATIONS
from rowsinplace.scenes import Scene
from rowsinplace.verdicts import Verdict

VISITS = ("up", "down", "any")
MOST = {"move": 4, "swap": 5, "send": 5, "put": 6}
KEYS = {op: [key for total in range(MOST.get(op, 7) + 1) for key in reference_scenes.keys(op, total)] for op in OPERATIONS}


def fault_in(op, lines, key, visit):
    """What a call in a scene raises, with spots in the place of rows, or None."""
    rows, arguments = reference_scenes.rows(op, key), reference_scenes.arguments(op, key)
    spots = {reference_scenes.name(op, key, spot): spot for spot in reference_scenes.spots(op, key)}
    if visit == "any":
        found = reference.first_meeting(lines, rows, arguments)
    else:
        found = reference.call(lines, rows, arguments, visit)
        found = found[1:] if isinstance(found, tuple) else None
    return None if found is None else (found[0], spots[found[1]], spots[found[2]])


def told(verdict):
    return None if verdict.holds else (verdict.scene.key, verdict.fault)


class Clashes(unittest.TestCase):
    def assertClash(self, op, lines, visit):
        """A verdict is what a search through small scenes tells, as far as it goes."""
        verdict = clash(Handler(op, *lines), visit)
        self.assertIs(type(verdict), Verdict)
        found = None
        for key in KEYS[op]:
            found = fault_in(op, lines, key, visit)
            if found is not None:
                found = (key, found)
                break
        if found is None and not verdict.holds:
            self.assertGreater(verdict.scene.total, MOST.get(op, 7))
            self.assertEqual(fault_in(op, lines, verdict.scene.key, visit), verdict.fault)
            return "far"
        self.assertEqual(told(verdict), found, (op, lines, visit))
        return "holds" if found is None else "near"

    def assertAll(self, op, lines):
        found = [self.assertClash(op, lines, visit) for visit in VISITS]
        verdicts = [told(clash(Handler(op, *lines), visit)) for visit in VISITS]
        self.assertEqual(verdicts[2] is None, verdicts[0] is None and verdicts[1] is None)
        if verdicts[2] is not None:
            self.assertEqual(verdicts[2][0], min(verdict[0] for verdict in verdicts[:2] if verdict is not None))
        return found


class Searched(Clashes):
    def test_patterns_and_handlers_without_steps(self):
        for op in OPERATIONS:
            self.assertAll(op, pattern(op).text.split("\n")[1:])
            self.assertEqual(self.assertAll(op, []), ["holds"] * 3)

    def test_drawn_handlers(self):
        for op, seed in itertools.product(OPERATIONS, range(600, 612)):
            self.assertAll(op, Drawn(seed, (2, 9)[seed % 2]).handler(op, 6, 4))

    def test_handlers_that_are_nearly_right(self):
        found = []
        for op, seed in itertools.product(OPERATIONS, range(700, 725)):
            found += self.assertAll(op, Drawn(seed, (9, 3, 5)[seed % 3]).nearly(op, 4))
        self.assertGreater(found.count("holds"), 20)
        self.assertGreater(found.count("near"), 200)
        self.assertGreater(found.count("far"), 0)


if __name__ == "__main__":
    unittest.main()
