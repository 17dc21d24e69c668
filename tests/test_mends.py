import itertools
import random
import re
import unittest

import reference
from lines import Drawn, RIGHT
from odd_objects import NO_NAMES
from rowsinplace import mends as module
from rowsinplace.errors import BadMend, TooMany
from rowsinplace.handlers import Handler, pattern
from rowsinplace.mends import fewest_mends, mended, mends_of
from rowsinplace.plain import OPERATIONS
from rowsinplace.verdicts import right

SIGNS = {"<": "<=", "<=": "<", ">": ">=", ">=": ">"}
SWAPPED = {"x": "old x", "y": "old y", "count home": "old count home", "count to": "old count to"}
SWAPPED.update({other: base for base, other in list(SWAPPED.items())})


def lines_of(handler):
    return handler.text.split("\n")[1:]


def term_of(base, offset):
    if base == "0":
        return str(offset) if 0 <= offset <= 9 else None
    if offset == 0:
        return base
    return f"{base} {'+' if offset > 0 else '-'} {abs(offset)}" if abs(offset) <= 9 else None


def changed_lines(op, lines):
    """All mends of a handler, each with the lines behind it, read off the lines themselves."""
    found = {}

    def put(mend, index, line):
        if line is not None:
            found[mend] = lines[:index] + [line] + lines[index + 1:]

    for index, line in enumerate(lines):
        guard, action = reference.parts(line)
        head = "" if guard is None else f"when {guard} do "
        if index + 1 < len(lines):
            found["next", index] = lines[:index] + [lines[index + 1], line] + lines[index + 2:]
        if action.startswith("write"):
            words = action.split(" ", 3)
            base, offset = reference.split_term(words[3])
            for mend, term in ((("less", index), term_of(base, offset - 1)), (("more", index), term_of(base, offset + 1)),
                               (("read", index, 0), SWAPPED.get(base) and term_of(SWAPPED[base], offset))):
                if term:
                    put(mend, index, head + " ".join(words[:3] + [term]))
        if action.startswith("shift"):
            by = action.split(" ")[3]
            turned = by[1:] if by.startswith("-") else "-" + by
            put(("turn", index), index, head + action.replace(f"by {by}", f"by {turned}", 1))
            start, spare, rows = action.partition(" except ")
            others = {"": " except x", "x": "", "y": " except x and y", "x and y": " except y"}
            put(("spare", index), index, head + start + others[rows])
            start, where, rest = start.partition(" where ")
            conditions = re.findall("place (<=|>=|<|>|=) (.*?)(?: and (?=place)|$)", rest)
            for at, (sign, text) in enumerate(conditions):
                base, offset = reference.split_term(text)
                ways = {("bound", index, at): (SIGNS.get(sign), text),
                        ("read", index, at): (sign, base in SWAPPED and term_of(SWAPPED[base], offset))}
                for mend, (other_sign, term) in ways.items():
                    if other_sign and term:
                        some = [f"place {a} {b}" for a, b in conditions[:at] + [(other_sign, term)] + conditions[at + 1:]]
                        put(mend, index, head + start + " where " + " and ".join(some) + spare + rows)
    return {mend: some for mend, some in found.items() if reference.first_wrong_line(op, some) is None}


class Mends(unittest.TestCase):
    def assertMends(self, op, lines):
        handler = Handler(op, *lines)
        expected = changed_lines(op, lines)
        found = mends_of(handler)
        self.assertIs(type(found), list)
        self.assertEqual(found, sorted(expected))
        for mend in found:
            behind = mended(handler, mend)
            self.assertIs(type(behind), Handler)
            self.assertEqual(behind.op, op)
            self.assertEqual(lines_of(behind), expected[mend], mend)
        self.assertEqual(handler.text, "\n".join([f"handler {op}", *lines]))

    def test_drawn_handlers(self):
        for op, seed in itertools.product(OPERATIONS, range(40)):
            self.assertMends(op, Drawn(seed, (9, 2, 1)[seed % 3]).handler(op))
            self.assertMends(op, Drawn(seed, 9).nearly(op))


    def test_each_kind_of_mend(self):
        handler = Handler("swap", "when old x < y do shift all by -3 where place < x + 1 and place = old count to and place >= 2 except y",
                          "write x to y - 1", "write y home 0", "shift to by 1 except x and y", "shift home by 2 except x")
        self.assertEqual({mend: mended(handler, mend).text.split("\n")[mend[1] + 1] for mend in mends_of(handler)}, {
            ("bound", 0, 0): "when old x < y do shift all by -3 where place <= x + 1 and place = old count to and place >= 2 except y",
            ("bound", 0, 2): "when old x < y do shift all by -3 where place < x + 1 and place = old count to and place > 2 except y",
            ("less", 1): "write x to y - 2", ("more", 1): "write x to y", ("more", 2): "write y home 1",
            ("next", 0): "write x to y - 1", ("next", 1): "write y home 0", ("next", 2): "shift to by 1 except x and y",
            ("next", 3): "shift home by 2 except x",
            ("read", 0, 0): "when old x < y do shift all by -3 where place < old x + 1 and place = old count to and place >= 2 except y",
            ("read", 0, 1): "when old x < y do shift all by -3 where place < x + 1 and place = count to and place >= 2 except y",
            ("read", 1, 0): "write x to old y - 1",
            ("spare", 0): "when old x < y do shift all by -3 where place < x + 1 and place = old count to and place >= 2 except x and y",
            ("spare", 3): "shift to by 1 except y", ("spare", 4): "shift home by 2",
            ("turn", 0): "when old x < y do shift all by 3 where place < x + 1 and place = old count to and place >= 2 except y",
            ("turn", 3): "shift to by -1 except x and y", ("turn", 4): "shift home by -2 except x",
        })

    def test_terms_at_the_ends_of_their_range(self):
        for term, mends in (("0", ["more"]), ("9", ["less"]), ("1", ["less", "more"]), ("x + 9", ["less", "read"]), ("x - 9", ["more", "read"]),
                            ("x + 1", ["less", "more", "read"]), ("x", ["less", "more", "read"]), ("old last home", ["less", "more"])):
            self.assertEqual([mend[0] for mend in mends_of(Handler("top", f"write x home {term}"))], mends, term)
        top = Handler("top", "write x home x - 1")
        self.assertEqual(mended(handler=top, mend=("more", 0)).text, "handler top\nwrite x home x")
        self.assertEqual(mended(mended(top, ("more", 0)), ("more", 0)).text, "handler top\nwrite x home x + 1")

    def test_only_what_is_a_handler_of_the_operation(self):
        # Row x is not there, or there is no place that it had.
        self.assertEqual(mends_of(Handler("take", "drop x", "shift home by -1 where place > old x")),
                         [("bound", 1, 0), ("next", 0), ("spare", 1), ("turn", 1)])
        self.assertEqual(mends_of(Handler("put", "write x to 3", "shift to by 1 where place > x")),
                         [("bound", 1, 0), ("less", 0), ("more", 0), ("spare", 1), ("turn", 1)])
        self.assertEqual(mends_of(Handler("add", "write x to 3", "when x > 1 do write x to x")),
                         [("less", 0), ("less", 1), ("more", 0), ("more", 1)])
        self.assertEqual(mends_of(Handler("top", "write x home 5", "drop x", "write x home 6")),
                         [("less", 0), ("less", 2), ("more", 0), ("more", 2), ("next", 0), ("next", 1)])
        self.assertEqual(mends_of(Handler("top", "drop x")), [])
        self.assertEqual(mends_of(Handler("top")), [])

    def test_two_equal_steps_are_exchanged_too(self):
        handler = Handler("top", "write x home 0", "write x home 0")
        self.assertIn(("next", 0), mends_of(handler))
        self.assertEqual(mended(handler, ("next", 0)), handler)

    def test_a_new_list_each_time(self):
        handler = pattern("put")
        found = mends_of(handler=handler)
        expected = list(found)
        found.clear()
        self.assertEqual(mends_of(handler), expected)

    def test_bad_mends(self):
        handler = Handler("top", "shift home by 1 where place < x", "shift home by 1 where place < x", "write x home 1")
        wrong = NO_NAMES + [
            ["turn", 0], ["bound", 0, 0], ("turn", True), ("turn", False), ("bound", True, 0), ("bound", 0, False), ("turn", 2), ("turn", 3),
            ("turn", -1), ("bound", 0, 1), ("bound", 0, -1), ("bound", -3, 0), ("bound", 2, 0), ("turn",), ("turn", 0, 0), ("bound", 0),
            ("bound", 0, 0, 0), ("less",), ("less", 0), ("less", 2, 0), ("less", -1), ("more", 3), ("next", 2), ("next", -1), ("next", True),
            ("spare", 2), ("spare", "0"), ("read", 2, 0), ("read", 0, 1), ("read", 0), ("Turn", 0), ("turn", None), ("turn", (0,)), ("turn", [0]),
            (("turn", 0),), [("turn", 0)], ("turn", 10 ** 30), (0, "turn"), ("bounds", 0, 0), "turn", ("drop", 0), (["turn"], 0),
        ]
        for thing in wrong:
            with self.assertRaises(BadMend) as caught:
                mended(handler, thing)
            self.assertIs(caught.exception.mend, thing)
        for mend in mends_of(handler):
            self.assertIs(type(mended(handler, mend)), Handler)

    def test_the_functions_stand_in_the_module(self):
        for name in ("mends_of", "mended", "fewest_mends"):
            self.assertEqual(vars(module)[name].__module__, "rowsinplace.mends")


class Fewest(unittest.TestCase):
    def searched(self, op, lines):
        """The fewest mends, by a search through all lists of at most two."""
        if right(Handler(op, *lines)):
            return []
        ways = sorted(changed_lines(op, lines).items())
        for mend, once in ways:
            if right(Handler(op, *once)):
                return [mend]
        for mend, once in ways:
            for other, twice in sorted(changed_lines(op, once).items()):
                if right(Handler(op, *twice)):
                    return [mend, other]
        return None

    def test_spoilt_handlers(self):
        draw = random.Random(3)
        counts = []
        for op, lines in [(op, lines) for op in OPERATIONS for lines in RIGHT[op]]:
            for number in range(6):
                some = lines
                for _ in range((1, 2, 2, 3)[number % 4]):
                    mends = changed_lines(op, some)
                    some = mends[draw.choice(sorted(mends))]
                found = fewest_mends(Handler(op, *some))
                self.assertEqual(found, self.searched(op, some), some)
                counts.append(None if found is None else len(found))
        self.assertGreater(counts.count(1), 30)
        self.assertGreater(counts.count(2), 10)
        self.assertGreater(counts.count(None), 0)

    def test_drawn_handlers(self):
        counts = []
        for op, seed in itertools.product(OPERATIONS, range(8)):
            lines = Drawn(seed, (1, 9)[seed % 2]).handler(op, 3, 3)
            found = fewest_mends(Handler(op, *lines))
            self.assertEqual(found, self.searched(op, lines), lines)
            counts.append(None if found is None else len(found))
        self.assertGreater(counts.count(None), 50)

    def test_to_the_letter(self):
        for op, lines, found in (
            ("put", ["shift to by 1 where place >= k", "write x to k"], []),
            ("put", ["shift to by 1 where place > k", "write x to k"], [("bound", 0, 0)]),
            ("put", ["shift to by -1 where place > k", "write x to k"], [("bound", 0, 0), ("turn", 0)]),
            ("put", ["write x to k", "shift to by 1 where place >= k"], [("next", 0)]),
            ("take", ["drop x"], None),
            ("add", ["write x to count to"], [("more", 0)]),
            ("add", ["write x to old count to + 4"], None),
            ("add", ["write x to count to + 3"], [("less", 0), ("less", 0)]),
            ("swap", ["write x to y", "write y home x"], [("read", 1, 0)]),
            ("bottom", ["shift home by 1 where place > x", "write x home count home + 1"], [("less", 1), ("turn", 0)]),
            # The least of several: either of two equal steps may be turned.
            ("take", ["drop x", "shift home by 1 where place > old x", "shift home by -1"], None),
        ):
            self.assertEqual(fewest_mends(handler=Handler(op, *lines)), found, lines)

    def test_a_handler_that_is_right_far_from_the_ends_alone(self):
        lines = ["shift home by -1 where place > x and place < 9", "shift home by -1 where place > 9", "drop x"]
        self.assertEqual(fewest_mends(Handler("take", *lines)), self.searched("take", lines))
        lines = ["shift home by -1 where place > x", "drop x", "shift home by 1 where place > 8", "shift home by 1 where place > 9"]
        self.assertEqual(fewest_mends(Handler("take", *lines)), self.searched("take", lines))

    def test_too_many_steps_then_too_many_comparisons(self):
        four = ["shift home by 1 where place = 1 and place = 2"]
        for lines, limit in ((["shift home by 1"] * 5, 4), (four + ["shift home by 1"] * 4, 4), (four, 3), (four + ["shift home by 1"] * 3, 3)):
            with self.assertRaises(TooMany) as caught:
                fewest_mends(Handler("top", *lines))
            self.assertEqual(caught.exception.limit, limit)
        self.assertIsNone(fewest_mends(Handler("top", "shift home by 1 where place = 1 and place > 2", *["shift home by 1"] * 3)))

    def test_a_new_list_each_time(self):
        add = Handler("add", "write x to count to")
        fewest_mends(add).clear()
        self.assertEqual(fewest_mends(add), [("more", 0)])


if __name__ == "__main__":
    unittest.main()
