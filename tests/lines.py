"""Lines and handlers for tests: all words of the grammar, and handlers drawn with a fixed seed."""
import random

import reference

SIGNS = ("<", "<=", ">", ">=", "=")
MOVES = ("-3", "-2", "-1", "1", "2", "3")
DIGITS = "0123456789"
SPARED = ("x", "y", "x and y")


def bases_of(op):
    """The bases that an operation has, x aside."""
    found = ["k"] if op in ("put", "move") else []
    if op == "swap":
        found += ["y", "old y"]
    if op not in ("put", "add"):
        found += ["old x", "count home", "old count home", "old last home"]
    if op in ("put", "add", "move", "send", "swap"):
        found += ["count to", "old count to", "old last to"]
    return found


def lists_of(op):
    if op in ("put", "add"):
        return ["to"]
    return ["home", "to"] if op in ("move", "send", "swap") else ["home"]


class Drawn:
    """Draws lines that are right for an operation; two with one seed draw the same."""

    def __init__(self, seed, widest=2):
        self.draw = random.Random(seed)
        self.widest = widest

    def term(self, op, there):
        draw = self.draw
        if draw.random() < 0.2:
            return draw.choice(DIGITS[:4])
        bases = bases_of(op) + (["x", "x"] if there else [])
        base = draw.choice(bases)
        if draw.random() < 0.5:
            return base
        return f"{base} {draw.choice('+-')} {draw.randint(1, self.widest)}"

    def shift(self, op, there, signs):
        draw = self.draw
        text = f"shift {draw.choice(lists_of(op) * 3 + ['all'])} by {draw.choice(MOVES[1:5])}"
        many = min(draw.randint(0, 2), len(signs))
        if many:
            text += " where " + " and ".join(
                f"place {signs.pop()} {self.term(op, there)}" for _ in range(many))
        if draw.random() < 0.3:
            text += " except " + (draw.choice(SPARED) if op == "swap" else "x")
        return text

    def guard(self, op, there, signs):
        draw = self.draw
        if op in ("move", "send", "swap") and draw.random() < 0.5:
            return draw.choice(("within", "apart"))
        if not signs:
            return None
        return f"{self.term(op, there)} {signs.pop()} {self.term(op, there)}"

    def line(self, op, there, signs):
        draw = self.draw
        kind = draw.random()
        if kind < 0.05 and there and op not in ("put", "add", "swap"):
            return "drop x"
        if kind < 0.55:
            action = self.shift(op, there, signs)
        else:
            row = draw.choice("xy") if op == "swap" else "x"
            action = f"write {row} {draw.choice(lists_of(op))} {self.term(op, there)}"
        guard = self.guard(op, there, signs) if draw.random() < 0.25 else None
        if guard is None or (action.startswith("write x") and not there):
            return action
        return f"when {guard} do {action}"

    def handler(self, op, most=6, comparisons=6):
        """The lines of a handler with at most that many lines and comparisons."""
        signs = []
        room = comparisons
        while room > 0:
            sign = self.draw.choice(SIGNS)
            room -= 2 if sign == "=" else 1
            if room >= 0:
                signs.append(sign)
        there = op not in ("put", "add")
        lines = []
        for _ in range(self.draw.randint(1, most)):
            line = self.line(op, there, signs)
            lines.append(line)
            if "write x" in line:
                there = True
            if line == "drop x":
                there = False
        assert reference.first_wrong_line(op, lines) is None, lines
        return lines

    def nearly(self, op, comparisons=6):
        """The lines of a handler that is right, or wrong perhaps far from the ends of the lists alone."""
        draw = self.draw
        lines = list(draw.choice(RIGHT[op]))
        for _ in range(20):
            changed = self.changed(op, lines)
            if len(changed) <= 6 and reference.first_wrong_line(op, changed) is None:
                if reference.comparisons(changed) <= comparisons:
                    lines = changed
                    if draw.random() < 0.4:
                        return lines
        return lines

    def changed(self, op, lines):
        """Lines with one thing changed; perhaps they are no handler then."""
        draw = self.draw
        at = draw.randrange(len(lines) + 1)
        kind = draw.random()
        term = self.term(op, draw.random() < 0.5)
        if kind < 0.35:
            return self.with_pair(op, lines, at, term)
        if kind < 0.5:
            guard = f"{term} {draw.choice(SIGNS[:4])} {self.term(op, True)}"
            return [f"when {guard} do {line}" if index == at and "when" not in line else line
                    for index, line in enumerate(lines)]
        if kind < 0.75:
            more = f" and place {draw.choice(SIGNS[:4])} {term}"
            return [line + more if index == at and line.endswith(TERM_ENDS) and "where" in line else line
                    for index, line in enumerate(lines)]
        if kind < 0.9:
            return lines[:at] + [f"write x {draw.choice(lists_of(op))} {term}"] + lines[at:]
        return lines[:at] + lines[at + 1:at + 2] + lines[at:at + 1] + lines[at + 2:]

    def with_pair(self, op, lines, at, term):
        """Lines with a shift and one that undoes it, or nearly so."""
        draw = self.draw
        lst, by = draw.choice(lists_of(op)), draw.choice((1, 1, 2))
        below = draw.random() < 0.5
        first = f"shift {lst} by {by if not below else -by} where place {'<' if below else '>'} {term}"
        other = first.replace(f"by {by}", "by *").replace(f"by -{by}", f"by {by}").replace("by *", f"by -{by}")
        kind = draw.random()
        if kind < 0.3:
            other = other.replace("place <", "place <=").replace("place >", "place >=")
        elif kind < 0.5:
            other = other.replace("place <", "place >").replace("place >", "place <", 1)
        return lines[:at] + [first, other] + lines[at:]


TERM_ENDS = ("x", "k", "1", "count to", "count home")

RIGHT = {
    "put": [["shift to by 1 where place >= k", "write x to k"], ["write x to k", "shift to by 1 where place >= x except x"]],
    "add": [["write x to count to + 1"], ["write x to old last to + 1"]],
    "take": [["shift home by -1 where place > x", "drop x"], ["drop x", "shift home by -1 where place > old x"]],
    "move": [["shift home by -1 where place > x", "shift to by 1 where place >= k except x", "write x to k"],
             ["shift home by -1 where place > old x", "write x to k", "shift to by 1 where place >= x except x"]],
    "send": [["shift home by -1 where place > x", "when within do write x to count to",
              "when apart do write x to count to + 1"],
             ["shift home by -1 where place > x", "write x to old count to + 1", "when within do write x home x - 1"]],
    "top": [["shift home by 1 where place < x", "write x home 1"], ["write x home 1", "shift home by 1 where place < old x except x"]],
    "bottom": [["shift home by -1 where place > x", "write x home count home"]],
    "up": [["shift home by 1 where place = x - 1", "when old x > 1 do write x home old x - 1"]],
    "down": [["shift home by -1 where place = x + 1", "when old x < count home do write x home old x + 1"]],
    "swap": [["write x to old y", "write y home old x"], ["write x to y", "write y home old x"]],
}
