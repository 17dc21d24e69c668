"""Lines and handlers for tests: all words of the grammar, and handlers drawn with a fixed seed."""
import random

import reference

SIGNS = ("<", "<=", ">", ">=", "=")
MOVES = ("-3", "-2", "-1", "1", "2", "3")
DIGITS = "0123456789"
SPARED = ("x", "y", "x and y")


def bases_of(op):
    """The bases that an operation has, x aside."""
    found = ["k"] if op in ("put", "move") else []
    if op == "swap":
        found += ["y", "old y"]
    if op not in ("put", "add"):
        found += ["old x", "count home", "old count home", "old last home"]
    if op in ("put", "add", "move", "send", "swap"):
        found += ["count to", "old count to", "old last to"]
    return found


def lists_of(op):
    if op in ("put", "add"):
        return ["to"]
    return ["home", "to"] if op in ("move", "send", "swap") else ["home"]


class Drawn:
    """Draws lines that are right for an operation; two with one seed draw the same."""

    def __init__(self, seed, widest=2):
        self.draw = random.Random(seed)
        self.widest = widest

    def term(self, op, there):
        draw = self.draw
        if draw.random() < 0.2:
            return draw.choice(DIGITS[:4])
        bases = bases_of(op) + (["x", "x"] if there else [])
        base = draw.choice(bases)
        if draw.random() < 0.5:
            return base
        return f"{base} {draw.choice('+-')} {draw.randint(1, self.widest)}"

    def shift(self, op, there, signs):
        draw = self.draw
        text = f"shift {draw.choice(lists_of(op) * 3 + ['all'])} by {draw.choice(MOVES[1:5])}"
        many = min(draw.randint(0, 2), len(signs))
        if many:
            text += " where " + " and ".join(
                f"place {signs.pop()} {self.term(op, there)}" for _ in range(many))
        if draw.random() < 0.3:
            text += " except " + (draw.choice(SPARED) if op == "swap" else "x")
        return text

    def guard(self, op, there, signs):
        draw = self.draw
        if op in ("move", "send", "swap") and draw.random() < 0.5:
            return draw.choice(("within", "apart"))
        if not signs:
            return None
        return f"{self.term(op, there)} {signs.pop()} {self.term(op, there)}"

    def line(self, op, there, signs):
        draw = self.draw
        kind = draw.random()
        if kind < 0.05 and there and op not in ("put", "add", "swap"):
            return "drop x"
        if kind < 0.55:
            action = self.shift(op, there, signs)
        else:
            row = draw.choice("xy") if op == "swap" else "x"
            action = f"write {row} {draw.choice(lists_of(op))} {self.term(op, there)}"
        guard = self.guard(op, there, signs) if draw.random() < 0.25 else None
        if guard is None or (action.startswith("write x") and not there):
            return action
        return f"when {guard} do {action}"

    def handler(self, op, most=6, comparisons=6):
        """The lines of a handler with at most that many lines and comparisons."""
        signs = []
        room = comparisons
        while room > 0:
            sign = self.draw.choice(SIGNS)
            room -= 2 if sign == "=" else 1
            if room >= 0:
                signs.append(sign)
        there = op not in ("put", "add")
        lines = []
        for _ in range(self.draw.randint(1, most)):
            line = self.line(op, there, signs)
            lines.append(line)
            if "write x" in line:
                there = True
            if line == "drop x":
                there = False
        assert reference.first_wrong_line(op, lines) is None, lines
        return lines
