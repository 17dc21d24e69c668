import itertools
import random
import unittest

import reference
import reference_scenes
from lines import Drawn
from odd_objects import NO_NAMES
from rowsinplace import rules as module
from rowsinplace.boards import Board
from rowsinplace.errors import BadRule, TooMany
from rowsinplace.handlers import Handler, pattern
from rowsinplace.plain import OPERATIONS
from rowsinplace.rules import Kept, keeps, strongest
from rowsinplace.verdicts import dense

NEW = ("put", "add")
LISTS = ("home", "to", "other")


def lines_of(handler):
    return handler.text.split("\n")[1:]


def is_unlike(spots):
    return len(set(spots)) == len(spots) and all(place >= 1 for lst, place in spots)


def is_dense(spots):
    return all(sorted(place for lst, place in spots if lst == name) == list(range(1, len([1 for lst, _ in spots if lst == name]) + 1))
               for name in LISTS)


def calls_on(op, lists):
    """All worlds and calls that are allowed on a board, given by the places of its lists."""
    for world in reference_scenes.OF[op]:
        to = "home" if world in ("within", "itself") else "to"
        if op in NEW and lists["home"] or to == "home" and lists["to"]:
            continue
        if world == "alone" and op not in NEW and lists["to"]:
            continue
        for x in [0] if op in NEW else lists["home"]:
            ys = [0]
            if op == "swap" and world != "itself":
                ys = [place for place in lists[to] if (to, place) != ("home", x)]
            many = len(lists[to]) - (1 if (to, op in NEW) == ("home", False) else 0)
            for y, k in itertools.product(ys, range(1, many + 2) if op in ("put", "move") else [0]):
                yield world, {"x": x, "y": y, "k": k}


def behind(op, lines, world, lists, numbers):
    """The spots of all rows behind a call."""
    to = "home" if world in ("within", "itself") else "to"
    rows = {lst[0] + str(place): (lst, place) for lst in LISTS for place in lists[lst]}
    names = {spot: row for row, spot in rows.items()}
    arguments = {"x": "new" if op in NEW else names["home", numbers["x"]]}
    if op == "swap":
        arguments["y"] = names[to, numbers["y"]] if numbers["y"] else arguments["x"]
    if op in ("put", "add", "move", "send"):
        arguments["to"] = to
    if op in ("put", "move"):
        arguments["k"] = numbers["k"]
    return list(reference.call(lines, rows, arguments).values())


def boards(total, widest):
    """All boards with that many rows at places up to the widest."""
    for home, to in itertools.product(range(total + 1), repeat=2):
        if home + to <= total:
            ways = [itertools.combinations(range(1, widest + 1), many) for many in (home, to, total - home - to)]
            for places in itertools.product(*ways):
                yield dict(zip(LISTS, places))


class Rules(unittest.TestCase):
    def assertKept(self, handler, rule, most, widest):
        """What is told breaks the rule, and no lesser board does, as far as a search goes."""
        answer = keeps(handler, rule)
        op, lines = handler.op, lines_of(handler)
        self.assertIs(type(answer), Kept)
        self.assertIs(answer.handler, handler)
        self.assertIs(answer.holds, answer.world is None)
        self.assertIs(bool(answer), answer.holds)
        keeping = is_dense if rule == "dense" else is_unlike
        if answer.holds:
            self.assertEqual((answer.lists, answer.numbers), (None, None))
        else:
            self.assertBreaks(answer, keeping)
        total = None if answer.holds else sum(map(len, answer.lists.values()))
        for many in range(most + 1 if total is None else min(total, most + 1)):
            for lists in boards(many, widest):
                if keeping([(lst, place) for lst in LISTS for place in lists[lst]]):
                    for world, numbers in calls_on(op, lists):
                        self.assertTrue(keeping(behind(op, lines, world, lists, numbers)),
                                        (handler.text, rule, world, lists, numbers))
        return "holds" if answer.holds else "far" if total > most else "near"

    def assertBreaks(self, answer, keeping):
        lists, numbers = answer.lists, answer.numbers
        self.assertEqual(sorted(lists), sorted(LISTS))
        self.assertEqual(sorted(numbers), ["k", "x", "y"])
        for places in lists.values():
            self.assertIs(type(places), tuple)
            self.assertEqual(list(places), sorted(set(places)))
        self.assertTrue(keeping([(lst, place) for lst in LISTS for place in lists[lst]]))
        op = answer.handler.op
        self.assertIn((answer.world, numbers), list(calls_on(op, lists)))
        self.assertFalse(keeping(behind(op, lines_of(answer.handler), answer.world, lists, numbers)), answer.handler.text)


class Searched(Rules):
    def test_patterns(self):
        for op in OPERATIONS:
            self.assertEqual(self.assertKept(pattern(op), "dense", 3, 3), "holds")
            self.assertKept(pattern(op), "unlike", 3, 4)

    def test_drawn_handlers(self):
        found = []
        for op, seed in itertools.product(OPERATIONS, range(12)):
            for lines in (Drawn(seed, 2).handler(op, 4, 4), Drawn(seed, (2, 9)[seed % 2]).nearly(op, 4)):
                handler = Handler(op, *lines)
                found.append(self.assertKept(handler, "unlike", 3, 4))
                found.append(self.assertKept(handler, "dense", 3, 3))
        self.assertGreater(found.count("near"), 250)
        self.assertGreater(found.count("holds"), 80)
        self.assertGreater(found.count("far"), 8)

    def test_handlers_that_keep_unlike_boards_unlike_or_nearly_so(self):
        draw = random.Random(6)
        found = []
        for op, number in itertools.product(OPERATIONS, range(24)):
            lines = self.far(draw, op) if number % 3 == 0 else self.quiet(draw, op)
            if reference.first_wrong_line(op, lines) is None and reference.comparisons(lines) <= 4:
                found.append(self.assertKept(Handler(op, *lines), "unlike", 3, 5))
        self.assertGreater(found.count("holds"), 30)
        self.assertGreater(found.count("near"), 30)
        self.assertGreater(found.count("far"), 3)

    def far(self, draw, op):
        """Lines that do something only on boards with some rows."""
        lst = "to" if op in NEW else "home"
        guard = f"when old count {lst} > {draw.randint(2, 7)} do "
        return [guard + f"shift {lst} by {draw.choice((-2, -1, 1, 2))} where place {draw.choice(('<', '>'))} {draw.randint(2, 4)}"]

    def quiet(self, draw, op):
        """Lines that make room for a row, or nearly so."""
        lst = "to" if op in NEW else "home"
        term = draw.choice(["1", "k", "x", "old x", f"count {lst}", f"old last {lst}", f"old last {lst} - 2", f"old count {lst} + 2"])
        room = f"shift {lst} by {draw.choice((1, 1, 2))} where place {draw.choice(('>=', '>=', '>'))} {term}"
        write = f"write x {lst} {draw.choice([term, f'old last {lst} + 1', f'old last {lst} + 3', f'count {lst} + 9'])}"
        guard = draw.choice(["", "", f"when old count {lst} > {draw.randint(2, 6)} do ", f"when old last {lst} > {draw.randint(2, 6)} do "])
        return draw.choice([[room], [write], [room, write], [room, guard + write], [guard + room + " and place > x"], [room + " except x", write]])


class Told(Rules):
    """What is told of some handlers, to the letter."""

    def assertTold(self, answer, *expected):
        self.assertEqual((answer.world, answer.lists, answer.numbers), expected)

    def test_neither_rule_follows_from_the_other(self):
        add = Handler("add", "write x to count to + 1")
        self.assertTrue(keeps(handler=add, rule="dense"))
        self.assertTold(keeps(add, "unlike"), "alone", {"home": (), "to": (2,), "other": ()}, {"x": 0, "y": 0, "k": 0})
        take = Handler("take", "drop x")
        self.assertTrue(keeps(take, "unlike"))
        self.assertTold(keeps(take, "dense"), "alone", {"home": (1, 2), "to": (), "other": ()}, {"x": 1, "y": 0, "k": 0})

    def test_last_places(self):
        add = Handler("add", "write x to old last to + 1")
        self.assertEqual([bool(keeps(add, rule)) for rule in ("dense", "unlike")], [True, True])
        self.assertTold(keeps(Handler("add", "write x to old last to"), "unlike"), "alone",
                        {"home": (), "to": (), "other": ()}, {"x": 0, "y": 0, "k": 0})
        low = Handler("top", "when old last home > count home + 8 do write x home 0")
        answer = keeps(low, "unlike")
        self.assertTold(answer, "alone", {"home": (10,), "to": (), "other": ()}, {"x": 10, "y": 0, "k": 0})
        self.assertTrue(keeps(low, "dense"))
        # A row that is neither x nor one of those that meet stands last, and counts.
        answer = keeps(Handler("top", "when old last home > count home + 3 do write x home x - 3"), "unlike")
        self.assertTold(answer, "alone", {"home": (1, 6), "to": (), "other": ()}, {"x": 1, "y": 0, "k": 0})
        empty = Handler("add", "write x to old last to + 1", "when old last to > old count to do write x to 0")
        self.assertTold(keeps(empty, "unlike"), "alone", {"home": (), "to": (2,), "other": ()}, {"x": 0, "y": 0, "k": 0})
        gap = Handler("bottom", "when old last home = old count home do write x home old last home + 1",
                      "when old last home > old count home do write x home old last home")
        self.assertKept(gap, "unlike", 4, 5)
        send = Handler("send", "when apart do write x to old last to + 1")
        self.assertEqual([bool(keeps(send, rule)) for rule in ("dense", "unlike")], [False, True])

    def test_places_k_go_by_the_numbers_of_rows(self):
        put = Handler("put", "write x to old last to + 1", "when k > 4 do write x to 0")
        answer = keeps(put, "unlike")
        self.assertEqual(sum(map(len, answer.lists.values())), 4)
        self.assertEqual(answer.numbers["k"], 5)
        self.assertTrue(keeps(Handler("put", "shift to by 1 where place >= k", "write x to k"), "unlike"))
        self.assertTrue(keeps(Handler("put", "write x to old last to + 1", "when k > count to do write x to 0"), "unlike"))
        move = Handler("move", "when within do write x to 1", "when k > count to do write x to 0")
        self.assertEqual(self.assertKept(move, "unlike", 3, 4), "near")

    def test_greater_boards_alone(self):
        for lines, total in ((["when old count home > 7 do write x home 1"], 8), (["when old count home > 7 do write x home 0"], 8),
                             (["when x > 9 do shift home by -1 where place = x except x"], None),
                             (["when x > 9 do shift home by -1 where place = x"], 2), (["write x home count home + 9"], 2)):
            answer = keeps(Handler("top", *lines), "unlike")
            self.assertEqual(None if answer.holds else len(answer.lists["home"]), total, lines)
            self.assertKept(Handler("top", *lines), "unlike", 3, 11)
        far = Handler("add", "when count to > 9 do shift all by -3 where place < 4 and place > 2", "write x to old last to + 1")
        answer = keeps(far, "unlike")
        self.assertBreaks(answer, is_unlike)
        self.assertEqual(sum(map(len, answer.lists.values())), 10)

    def test_worlds(self):
        swap = pattern("swap")
        self.assertEqual([bool(keeps(swap, rule)) for rule in ("dense", "unlike")], [True, True])
        itself = Handler("swap", "when x = y do write x to 0")
        self.assertIn(keeps(itself, "unlike").world, ("itself", "apart"))
        self.assertEqual(self.assertKept(itself, "unlike", 3, 3), "near")
        every = Handler("take", "drop x", "shift all by -1 where place > old x and place > 1")
        self.assertEqual(self.assertKept(every, "unlike", 3, 4), "near")

    def test_dense_as_dense_tells(self):
        for op, seed in itertools.product(OPERATIONS, range(100, 115)):
            handler = Handler(op, *Drawn(seed, 9).nearly(op, 4))
            verdict, answer = dense(handler), keeps(handler, "dense")
            self.assertEqual(verdict.holds, answer.holds)
            if not verdict.holds:
                self.assertEqual(verdict.scene.total, sum(map(len, answer.lists.values())))

    def test_new_dicts(self):
        take = Handler("take", "drop x")
        answer = keeps(take, "dense")
        answer.lists.clear()
        answer.numbers.clear()
        self.assertEqual((keeps(take, "dense").lists["home"], keeps(take, "dense").numbers["x"]), ((1, 2), 1))


class Strongest(unittest.TestCase):
    def test_none_one_and_several(self):
        dense_one, unlike_one, both = Handler("add", "write x to count to + 1"), Handler("take", "drop x"), pattern("swap")
        neither = Handler("top", "write x home 1")
        self.assertEqual(strongest(), "dense")
        for handlers, found in (
            ([dense_one], "dense"), ([unlike_one], "unlike"), ([both], "dense"), ([neither], "none"), ([both, dense_one], "dense"),
            ([both, unlike_one], "unlike"), ([unlike_one, both, unlike_one], "unlike"), ([dense_one, unlike_one], "none"),
            ([neither, both], "none"), ([both, neither], "none"),
        ):
            self.assertEqual(strongest(*handlers), found)

    def test_held_against_keeps(self):
        draw = random.Random(8)
        found = []
        for number in range(80):
            handlers = []
            for _ in range(draw.randint(1, 3)):
                op = draw.choice(OPERATIONS)
                handlers.append(draw.choice((pattern(op), Handler(op), Handler(op, *Drawn(number, 2).nearly(op, 4)))))
            expected = "none"
            for rule in ("unlike", "dense"):
                if all(keeps(handler, rule).holds for handler in handlers):
                    expected = rule
            self.assertEqual(strongest(*handlers), expected)
            found.append(expected)
        self.assertEqual(len(set(found)), 3)

    def test_too_many_ahead_of_all_else(self):
        five = Handler("top", "shift home by 1 where place = 1 and place = 2", "shift home by 1 where place > 1")
        for handlers in ([five], [Handler("top", "write x home 1"), five], [pattern("swap"), pattern("take"), five]):
            with self.assertRaises(TooMany) as caught:
                strongest(*handlers)
            self.assertEqual(caught.exception.limit, 4)


class Values(unittest.TestCase):
    def test_the_names_stand_in_the_module(self):
        for name in ("keeps", "strongest", "Kept"):
            self.assertEqual(vars(module)[name].__module__, "rowsinplace.rules")
        for name in ("__init__", "holds", "__bool__"):
            self.assertIn(name, vars(Kept))

    def test_an_answer(self):
        handler = pattern("top")
        answer = Kept(handler, None, None, None)
        self.assertIs(answer.handler, handler)
        self.assertEqual((answer.world, answer.lists, answer.numbers, answer.holds, bool(answer)), (None, None, None, True, True))
        lists, numbers = {"home": (1,), "to": (), "other": ()}, {"x": 1, "y": 0, "k": 0}
        answer = Kept(handler=handler, world="alone", lists=lists, numbers=numbers)
        self.assertEqual((answer.world, answer.lists, answer.numbers, answer.holds, bool(answer)), ("alone", lists, numbers, False, False))

    def test_bad_rule_ahead_of_too_many(self):
        five = Handler("top", "shift home by 1 where place = 1 and place = 2", "shift home by 1 where place > 1")
        four = Handler("top", "shift home by 1 where place = 1 and place = 2")
        for thing in NO_NAMES + ["Dense", ["dense"], ("unlike",), "none", "dense "]:
            for handler in (five, four):
                with self.assertRaises(BadRule) as caught:
                    keeps(handler, thing)
                self.assertEqual(caught.exception.rule, thing)
        for rule in ("dense", "unlike"):
            self.assertIs(type(keeps(four, rule)), Kept)
            with self.assertRaises(TooMany) as caught:
                keeps(five, rule)
            self.assertEqual(caught.exception.limit, 4)

    def test_a_board_of_what_is_told(self):
        answer = keeps(Handler("move", "write x to k"), "unlike")
        board = Board()
        for lst, places in answer.lists.items():
            for place in places:
                board[lst, place] = lst[0] + "abcdefghij"[place]
        x = board["home", answer.numbers["x"]]
        self.assertTrue(board.is_unlike)
        answer.handler(board, x=x, to="to" if answer.world == "apart" else "home", k=answer.numbers["k"])
        self.assertFalse(board.is_unlike)


if __name__ == "__main__":
    unittest.main()
