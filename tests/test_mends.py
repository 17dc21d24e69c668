import itertools
import random
import re
import unittest

import reference
from lines import Drawn, RIGHT
from odd_objects import NO_NAMES
from rowsinplace import mends as module
from rowsinplace.errors import BadMend, TooMany
from rowsinplace.handlers import Handler, pattern
from rowsinplace.mends import fewest_mends, mended, mends_of
from rowsinplace.plain import OPERATIONS
from rowsinplace.verdicts import right

SIGNS = {"<": "<=", "<=": "<", ">": ">=", ">=": ">"}
SWAPPED = {"x": "old x", "y": "old y", "count home": "old count home", "count to": "old count to"}
SWAPPED.update({other: base for base, other in list(SWAPPED.items())})


def lines_of(handler):
    return handler.text.split("\n")[1:]


def term_of(base, offset):
    if base == "0":
        return str(offset) if 0 <= offset <= 9 else None
    if offset == 0:
        return base
    return f"{base} {'+' if offset > 0 else '-'} {abs(offset)}" if abs(offset) <= 9 else None


def changed_lines(op, lines):
    """All mends of a handler, each with the lines behind it, read off the lines themselves."""
    found = {}

    def put(mend, index, line):
        if line is not None:
            found[mend] = lines[:index] + [line] + lines[index + 1:]

    for index, line in enumerate(lines):
        guard, action = reference.parts(line)
        head = "" if guard is None else f"when {guard} do "
        if index + 1 < len(lines):
            found["next", index] = lines[:index] + [lines[index + 1], line] + lines[index + 2:]
        if action.startswith("write"):
            words = action.split(" ", 3)
            base, offset = reference.split_term(words[3])
            for mend, term in ((("less", index), term_of(base, offset - 1)), (("more", index), term_of(base, offset + 1)),
                               (("read", index, 0), SWAPPED.get(base) and term_of(SWAPPED[base], offset))):
                if term:
                    put(mend, index, head + " ".join(words[:3] + [term]))
        if action.startswith("shift"):
            by = action.split(" ")[3]
            turned = by[1:] if by.startswith("-") else "-" + by
            put(("turn", index), index, head + action.replace(f"by {by}", f"by {turned}", 1))
            start, spare, rows = action.partition(" except ")
            others = {"": " except x", "x": "", "y": " except x and y", "x and y": " except y"}
            put(("spare", index), index, head + start + others[rows])
            start, where, rest = start.partition(" where ")
            conditions = re.findall("place (<=|>=|<|>|=) (.*?)(?: and (?=place)|$)", rest)
            for at, (sign, text) in enumerate(conditions):
                base, offset = reference.split_term(text)
                ways = {("bound", index, at): (SIGNS.get(sign), text),
                        ("read", index, at): (sign, base in SWAPPED and term_of(SWAPPED[base], offset))}
                for mend, (other_sign, term) in ways.items():
                    if other_sign and term:
                        some = [f"place {a} {b}" for a, b in conditions[:at] + [(other_sign, term)] + conditions[at + 1:]]
                        put(mend, index, head + start + " where " + " and ".join(some) + spare + rows)
    return {mend: some for mend, some in found.items() if reference.first_wrong_line(op, some) is None}


class Mends(unittest.TestCase):
    def assertMends(self, op, lines):
        handler = Handler(op, *lines)
        expected = changed_lines(op, lines)
        found = mends_of(handler)
        self.assertIs(type(found), list)
        self.assertEqual(found, sorted(expected))
        for mend in found:
            behind = mended(handler, mend)
            self.assertIs(type(behind), Handler)
            self.assertEqual(behind.op, op)
            self.assertEqual(lines_of(behind), expected[mend], mend)
        self.assertEqual(handler.text, "\n".join([f"handler {op}", *lines]))

    def test_drawn_handlers(self):
        for op, seed in itertools.product(OPERATIONS, range(40)):
            self.assertMends(op, Drawn(seed, (9, 2, 1)[seed % 3]).handler(op))
            self.assertMends(op, Drawn(seed, 9).nearly(op))


class Fewest(unittest.TestCase):
    def searched(self, op, lines):
        """The fewest mends, by a search through all lists of at most two."""
        if right(Handler(op, *lines)):
            return []
        ways = sorted(changed_lines(op, lines).items())
        for mend, once in ways:
            if right(Handler(op, *once)):
                return [mend]
        for mend, once in ways:
            for other, twice in sorted(changed_lines(op, once).items()):
                if right(Handler(op, *twice)):
                    return [mend, other]
        return None

    def test_spoilt_handlers(self):
        draw = random.Random(3)
        counts = []
        for op, lines in [(op, lines) for op in OPERATIONS for lines in RIGHT[op]]:
            for number in range(6):
                some = lines
                for _ in range((1, 2, 2, 3)[number % 4]):
                    mends = changed_lines(op, some)
                    some = mends[draw.choice(sorted(mends))]
                found = fewest_mends(Handler(op, *some))
                self.assertEqual(found, self.searched(op, some), some)
                counts.append(None if found is None else len(found))
        print({count: counts.count(count) for count in set(counts)})


if __name__ == "__main__":
    unittest.main()
