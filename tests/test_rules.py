import itertools
import random
import unittest

import reference
import reference_scenes
from lines import Drawn
from odd_objects import NO_NAMES
from rowsinplace import rules as module
from rowsinplace.boards import Board
from rowsinplace.errors import BadRule, TooMany
from rowsinplace.handlers import Handler, pattern
from rowsinplace.plain import OPERATIONS
from rowsinplace.rules import Kept, keeps, strongest
from rowsinplace.verdicts import dense

NEW = ("put", "add")
LISTS = ("home", "to", "other")


def lines_of(handler):
    return handler.text.split("\n")[1:]


def is_unlike(spots):
    return len(set(spots)) == len(spots) and all(place >= 1 for lst, place in spots)


def is_dense(spots):
    return all(sorted(place for lst, place in spots if lst == name) == list(range(1, len([1 for lst, _ in spots if lst == name]) + 1))
               for name in LISTS)


def calls_on(op, lists):
    """All worlds and calls that are allowed on a board, given by the places of its lists."""
    for world in reference_scenes.OF[op]:
        to = "home" if world in ("within", "itself") else "to"
        if op in NEW and lists["home"] or to == "home" and lists["to"]:
            continue
        if world == "alone" and op not in NEW and lists["to"]:
            continue
        for x in [0] if op in NEW else lists["home"]:
            ys = [0]
            if op == "swap" and world != "itself":
                ys = [place for place in lists[to] if (to, place) != ("home", x)]
            many = len(lists[to]) - (1 if (to, op in NEW) == ("home", False) else 0)
            for y, k in itertools.product(ys, range(1, many + 2) if op in ("put", "move") else [0]):
                yield world, {"x": x, "y": y, "k": k}


def behind(op, lines, world, lists, numbers):
    """The spots of all rows behind a call."""
    to = "home" if world in ("within", "itself") else "to"
    rows = {lst[0] + str(place): (lst, place) for lst in LISTS for place in lists[lst]}
    names = {spot: row for row, spot in rows.items()}
    arguments = {"x": "new" if op in NEW else names["home", numbers["x"]]}
    if op == "swap":
        arguments["y"] = names[to, numbers["y"]] if numbers["y"] else arguments["x"]
    if op in ("put", "add", "move", "send"):
        arguments["to"] = to
    if op in ("put", "move"):
        arguments["k"] = numbers["k"]
    return list(reference.call(lines, rows, arguments).values())


def boards(total, widest):
    """All boards with that many rows at places up to the widest."""
    for home, to in itertools.product(range(total + 1), repeat=2):
        if home + to <= total:
            ways = [itertools.combinations(range(1, widest + 1), many) for many in (home, to, total - home - to)]
            for places in itertools.product(*ways):
                yield dict(zip(LISTS, places))


class Rules(unittest.TestCase):
    def assertKept(self, handler, rule, most, widest):
        """What is told breaks the rule, and no lesser board does, as far as a search goes."""
        answer = keeps(handler, rule)
        op, lines = handler.op, lines_of(handler)
        self.assertIs(type(answer), Kept)
        self.assertIs(answer.handler, handler)
        self.assertIs(answer.holds, answer.world is None)
        self.assertIs(bool(answer), answer.holds)
        keeping = is_dense if rule == "dense" else is_unlike
        if answer.holds:
            self.assertEqual((answer.lists, answer.numbers), (None, None))
        else:
            self.assertBreaks(answer, keeping)
        total = None if answer.holds else sum(map(len, answer.lists.values()))
        for many in range(most + 1 if total is None else min(total, most + 1)):
            for lists in boards(many, widest):
                if keeping([(lst, place) for lst in LISTS for place in lists[lst]]):
                    for world, numbers in calls_on(op, lists):
                        self.assertTrue(keeping(behind(op, lines, world, lists, numbers)),
                                        (handler.text, rule, world, lists, numbers))
        return "holds" if answer.holds else "far" if total > most else "near"

    def assertBreaks(self, answer, keeping):
        lists, numbers = answer.lists, answer.numbers
        self.assertEqual(sorted(lists), sorted(LISTS))
        self.assertEqual(sorted(numbers), ["k", "x", "y"])
        for places in lists.values():
            self.assertIs(type(places), tuple)
            self.assertEqual(list(places), sorted(set(places)))
        self.assertTrue(keeping([(lst, place) for lst in LISTS for place in lists[lst]]))
        op = answer.handler.op
        self.assertIn((answer.world, numbers), list(calls_on(op, lists)))
        self.assertFalse(keeping(behind(op, lines_of(answer.handler), answer.world, lists, numbers)), answer.handler.text)


class Searched(Rules):
    def test_patterns(self):
        for op in OPERATIONS:
            self.assertEqual(self.assertKept(pattern(op), "dense", 3, 3), "holds")
            self.assertKept(pattern(op), "unlike", 3, 4)

    def test_drawn_handlers(self):
        found = []
        for op, seed in itertools.product(OPERATIONS, range(12)):
            for lines in (Drawn(seed, 2).handler(op, 4, 4), Drawn(seed, (2, 9)[seed % 2]).nearly(op, 4)):
                handler = Handler(op, *lines)
                found.append(self.assertKept(handler, "unlike", 3, 4))
                found.append(self.assertKept(handler, "dense", 3, 3))
        print({name: found.count(name) for name in set(found)})


if __name__ == "__main__":
    unittest.main()
