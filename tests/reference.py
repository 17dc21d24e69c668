"""Another reading of the document, straight from its words, to hold the package against."""
import re

OPERATIONS = ("put", "add", "take", "move", "send", "top", "bottom", "up", "down", "swap")
HAVE_X_AT_FIRST = ("take", "move", "send", "top", "bottom", "up", "down", "swap")
BASES = (
    "old count home", "old count to", "old last home", "old last to", "count home", "count to",
    "old x", "old y", "k", "x", "y",
)

BASE = "(?:" + "|".join(BASES) + ")"
TERM = f"(?:[0-9]|{BASE}(?: [+-] [1-9])?)"
SIGN = "(?:<=|>=|<|>|=)"
CONDITION = f"place {SIGN} {TERM}"
SHIFT = (
    f"shift (?:home|to|all) by (?:-3|-2|-1|1|2|3)(?: where {CONDITION}(?: and {CONDITION}){{0,2}})?"
    "(?: except (?:x and y|x|y))?"
)
WRITE = f"write (?:x|y) (?:home|to) {TERM}"
GUARD = f"(?:within|apart|{TERM} {SIGN} {TERM})"
LINE = re.compile(f"(?:when {GUARD} do )?(?:{SHIFT}|{WRITE}|drop x)")


def is_line(thing):
    return isinstance(thing, str) and LINE.fullmatch(thing) is not None


def parts(line):
    """The guard of a line, or None, and its action."""
    found = re.fullmatch("when (.*?) do (.*)", line)
    return found.groups() if found else (None, line)


def terms_in(line):
    """All terms of a line, as they are written, one after another."""
    guard, action = parts(line)
    texts = []
    if guard is not None and guard not in ("within", "apart"):
        texts += re.split(f" {SIGN} ", guard)
    if action.startswith("write"):
        texts.append(action.split(" ", 3)[3])
    where = re.search(" where (.*?)(?: except .*)?$", action)
    if where:
        texts += [part.split(" ", 2)[2] for part in where.group(1).split(" and ")]
    return texts


def split_term(text):
    """A term as (base, offset)."""
    if text.isdigit():
        return ("0", int(text))
    found = re.fullmatch(r"(.*?)(?: ([+-]) (\d))?", text)
    base, sign, digit = found.groups()
    return (base, 0 if digit is None else int(sign + digit))


def bases_in(line):
    found = [split_term(text)[0] for text in terms_in(line)]
    return [base for at, base in enumerate(found) if base != "0" and base not in found[:at]]


def comparisons(lines):
    signs = [sign for line in lines for sign in re.findall("<=|>=|<|>|=", line)]
    return len(signs) + signs.count("=")


def first_wrong_line(op, lines):
    """The index of the first line that is not right for the operation, or None."""
    there = op in HAVE_X_AT_FIRST
    for index, line in enumerate(lines):
        if not is_line(line) or not is_right(op, line, there):
            return index
        action = parts(line)[1]
        if action.startswith("write x"):
            there = True
        if action == "drop x":
            there = False
    return None


def is_right(op, line, there):
    guard, action = parts(line)
    two = op in ("move", "send", "swap")
    bases = bases_in(line)
    words = line.split(" ")
    actions = action.split(" ")
    if "k" in words and op not in ("put", "move"):
        return False
    if "y" in words and op != "swap":
        return False
    if "home" in words and op in ("put", "add"):
        return False
    if "to" in words and not two and op not in ("put", "add"):
        return False
    if guard in ("within", "apart") and not two:
        return False
    if "old x" in bases and op in ("put", "add"):
        return False
    if action == "drop x" and (op in ("put", "add", "swap") or guard is not None):
        return False
    needs = "x" in bases or action == "drop x" or (actions[:2] == ["write", "x"] and guard is not None)
    return there or not needs


class ClashFound(Exception):
    pass


def holds(left, sign, right):
    return {"<": left < right, "<=": left <= right, ">": left > right, ">=": left >= right, "=": left == right}[sign]


class Run:
    """The call of a handler, given by its lines, on rows: a dict from names to [list, place]."""

    def __init__(self, rows, x=None, y=None, to=None, k=None):
        self.rows = rows
        self.named = {"x": x, "y": y}
        self.lists = {"to": to if y is None else rows[y][0], "home": rows[x][0] if x in rows else None}
        self.k = k
        self.before = {row: list(spot) for row, spot in rows.items()}

    def places(self, rows, word):
        return [place for lst, place in rows.values() if lst == self.lists[word]]

    def worth(self, text):
        base, offset = split_term(text)
        words = base.split(" ")
        rows = self.before if words[0] == "old" else self.rows
        if base == "0":
            return offset
        if base == "k":
            return self.k + offset
        if words[-1] in ("x", "y"):
            return rows[self.named[words[-1]]][1] + offset
        places = self.places(rows, words[-1])
        if "last" in words:
            return (max(places) if places else 0) + offset
        return len(places) + offset

    def guarded(self, guard):
        if guard is None:
            return True
        if guard in ("within", "apart"):
            return (guard == "within") == (self.lists["home"] == self.lists["to"])
        left, right = re.split(f" {SIGN} ", guard)
        return holds(self.worth(left), guard[len(left) + 1:len(guard) - len(right) - 1], self.worth(right))

    def look(self, index, row, visit):
        if visit is None:
            return
        others = [other for other in self.rows if other != row and self.rows[other] == self.rows[row]]
        if others:
            raise ClashFound(index, row, min(others))

    def step(self, index, line, visit=None):
        guard, action = parts(line)
        if not self.guarded(guard):
            return
        words = action.split(" ")
        if action == "drop x":
            del self.rows[self.named["x"]]
        elif words[0] == "write":
            row = self.named[words[1]]
            self.rows[row] = [self.lists[words[2]], self.worth(" ".join(words[3:]))]
            self.look(index, row, visit)
        else:
            self.shift(index, action, visit)

    def shift(self, index, action, visit):
        words = action.split(" ")
        spared = re.search(" except (.*)$", action)
        spared = [self.named[word] for word in spared.group(1).split(" and ")] if spared else []
        texts = terms_in(action)
        signs = re.findall(f"place ({SIGN}) ", action)
        limits = [(sign, self.worth(text)) for sign, text in zip(signs, texts)]
        moved = []
        for row, (lst, place) in self.rows.items():
            if words[1] != "all" and lst != self.lists[words[1]]:
                continue
            if row not in spared and all(holds(place, sign, limit) for sign, limit in limits):
                moved.append((lst, place, row))
        for lst, place, row in sorted(moved, reverse=visit == "down"):
            self.rows[row] = [lst, place + int(words[3])]
            self.look(index, row, visit)


def call(lines, rows, arguments, visit=None):
    """The rows behind a call, or the arguments of its clash."""
    run = Run({row: list(spot) for row, spot in rows.items()}, **arguments)
    try:
        for index, line in enumerate(lines):
            run.step(index, line, visit)
    except ClashFound as clash:
        return ("clash", *clash.args)
    return {row: tuple(spot) for row, spot in run.rows.items()}


def first_meeting(lines, rows, arguments):
    """The first step that may clash if the rows of a shift are visited in any order, with both rows; or None."""
    run = Run({row: list(spot) for row, spot in rows.items()}, **arguments)
    for index, line in enumerate(lines):
        before = {row: tuple(spot) for row, spot in run.rows.items()}
        guard, action = parts(line)
        is_open = run.guarded(guard)
        run.step(index, line)
        changed = [row for row in run.rows if before.get(row) != tuple(run.rows[row])]
        if action.startswith("write") and is_open:
            changed = [run.named[action[6]]]
        for row in sorted(changed, key=lambda row: (*before.get(row, ("", 0)), row)):
            others = [other for other in before if other != row and before[other] == tuple(run.rows[row])]
            if others and action != "drop x":
                return (index, row, min(others))
    return None


def allowed_argument(op, rows, arguments):
    """The name of the first argument that does not fit, or None; rows is a dict to (list, place)."""
    have = {
        "put": "x to k", "add": "x to", "take": "x", "move": "x to k", "send": "x to", "top": "x", "bottom": "x",
        "up": "x", "down": "x", "swap": "x y",
    }[op].split(" ")
    x, y, to, k = [arguments.get(name) for name in ("x", "y", "to", "k")]
    name = re.compile("[a-z]{1,8}")
    is_row = isinstance(x, str) and x in rows
    if op in ("put", "add"):
        fits = isinstance(x, str) and name.fullmatch(x) is not None and not is_row
    else:
        fits = is_row
    if not fits:
        return "x"
    if not ((isinstance(y, str) and y in rows) if "y" in have else y is None):
        return "y"
    if not ((isinstance(to, str) and name.fullmatch(to) is not None) if "to" in have else to is None):
        return "to"
    if "k" not in have:
        return None if k is None else "k"
    count = sum(1 for row, (lst, place) in rows.items() if lst == to and row != x)
    return None if type(k) is int and 1 <= k <= count + 1 else "k"
