"""Runs: the call of a handler in all scenes of a world at once.

The places of rows are told as a number of the scene plus a constant. Where a step asks how two
such places lie, the scenes are parted, if they do not all have the same answer.
"""
from rowsinplace.casts import Cast
from rowsinplace.regions import narrowed, parted, whole
from rowsinplace.steps import Drop, Shift, Write

ROWS = ("x", "y", "row", "next")


class Branch:
    """Scenes in which all went alike so far: their region, what was asked, and where rows are.

    The rows are in a dict to tuples (list, index of a number, constant).
    """

    def __init__(self, region, path, rows):
        self.region = region
        self.path = path
        self.rows = rows

    def divided(self, bounds):
        """The branch in which all bounds hold, or None, and a list of the others."""
        inside = self
        others = []
        for bound in bounds:
            yes, no = parted(inside.region, bound)
            if yes is None:
                return (None, [*others, inside])
            if no is not None:
                u, v, c = bound
                others.append(Branch(no, (*inside.path, (v, u, -c - 1)), self.rows))
                inside = Branch(yes, (*inside.path, bound), self.rows)
        return (inside, others)

    def with_rows(self, rows):
        """The same scenes, with rows at other spots."""
        return Branch(self.region, self.path, rows)


class Field:
    """The scenes of an operation and a world, with up to two rows of a list besides x and y."""

    def __init__(self, op, world, kinds):
        self.op = op
        self.world = world
        self.cast = Cast(op, world)
        self.names = _names(op, world, self.cast, kinds)
        self.ranks = {name: index for index, name in enumerate(self.names)}
        homes = {**self.cast.homes, **{row: lst for row, lst in zip(("row", "next"), kinds)}}
        # Where the rows are before the call, and what bases are worth that stay as they are.
        self.rows = {row: (homes[row], self.ranks[row], 0) for row in homes}
        self.settled = _settled(self.cast, self.ranks)
        self._homes = homes

    def starts(self):
        """The branches before a call, one for each order of the rows that are told apart."""
        region = whole(len(self.names) - 1)
        for u, v, c in standing(self.op, self.world, self._homes, self.names):
            region = narrowed(region, (self.ranks[u], self.ranks[v], c))
        found = [Branch(region, (), self.rows)]
        for lst in self.cast.lists:
            rows = [self.ranks[row] for row in ROWS if self._homes.get(row) == lst]
            ways = _orders(rows, self.ranks.get("row"), self.ranks.get("next"))
            found = [_ordered(branch, way) for branch in found for way in ways]
        return found

    def rows_in(self, branch, lst):
        """The number of rows of a list now, as an index and a constant."""
        now = [row for row in ("x", "y") if row in branch.rows and branch.rows[row][0] == lst]
        before = [row for row in ("x", "y") if self._homes.get(row) == lst]
        return (self.ranks[lst], len(now) - len(before))


def standing(op, world, homes, names):
    """The bounds that all scenes of a world satisfy, over some names; homes has the lists of rows."""
    found = []
    for name in names:
        if name in ("home", "to", "other"):
            found.append(("zero", name, 0))
        elif name in homes or name == "k":
            found.append(("zero", name, -1))
    found.extend([(row, homes[row], 0) for row in homes if row in names])
    if "k" in names:
        found.append(("k", "home", 0) if world == "within" else ("k", "to", 1))
    return found


def play(handler, field, watched, branches):
    """The branches behind a call; of the rows, the places of those that are watched are told."""
    lives = _lives(handler, field.cast, watched)
    for step, live in zip(handler.steps, lives):
        branches = [after for branch in branches for after in _behind(step, live, branch, field)]
    return branches


def _names(op, world, cast, kinds):
    """The names of the numbers by their indexes; the list other counts only with its rows."""
    lists = [lst for lst in cast.lists if lst != "other" or "other" in kinds]
    k = ["k"] if op in ("put", "move") else []
    return ["zero", *lists, *cast.homes, *k, *[row for row, lst in zip(("row", "next"), kinds)]]


def _settled(cast, ranks):
    """What the bases are worth that stay as they are when the call begins."""
    found = {"0": 0, "k": ranks.get("k")}
    for word, row in cast.row_of.items():
        found[f"old {word}"] = ranks.get(row)
    for word, lst in cast.list_of.items():
        # The lists are dense, so the last place is the number of rows.
        found[f"old count {word}"] = ranks.get(lst)
        found[f"old last {word}"] = ranks.get(lst)
    return found


def _orders(rows, row, following):
    """All orders of rows; the second row of a kind, if it is there, is never ahead of the first."""
    if not rows:
        return [[]]
    found = []
    for first in rows:
        if first != following or row not in rows:
            rest = [other for other in rows if other != first]
            found.extend([[first, *way] for way in _orders(rest, row, following)])
    return found


def _ordered(branch, way):
    """The part of a branch in which the places of rows are in an order."""
    for row, other in zip(way, way[1:]):
        bound = (row, other, -1)
        branch = Branch(narrowed(branch.region, bound), (*branch.path, bound), branch.rows)
    return branch


def _lives(handler, cast, watched):
    """For each step the rows whose places still matter behind it."""
    live = list(watched)
    found = []
    for step in handler.steps[::-1]:
        found.append(live)
        gone = []
        if isinstance(step, Drop) or (isinstance(step, Write) and step.guard is None):
            gone = [cast.row_of[step.row]]
        read = [cast.row_of[base] for base in step.reads() if base in cast.row_of]
        live = [row for row in ROWS if row in read or (row in live and row not in gone)]
    return found[::-1]


def _behind(step, live, branch, field):
    """The branches that a branch becomes behind a step."""
    rows = _concerned(step, live, branch, field.cast) if isinstance(step, Shift) else []
    if isinstance(step, Shift) and not rows:
        return [branch]
    inside, others = _guarded(step.guard, branch, field)
    if inside is None:
        return others
    if isinstance(step, Shift):
        return others + _shifted(step, rows, inside, field)
    after = dict(inside.rows)
    if isinstance(step, Drop):
        del after["x"]
    else:
        base, more = step.term
        worth, offset = _worth(inside, field, base, more)
        after[field.cast.row_of[step.row]] = (field.cast.list_of[step.target], worth, offset)
    return [*others, inside.with_rows(after)]


def _concerned(step, live, branch, cast):
    """The rows that matter and that a shift moves, if they satisfy its conditions."""
    spared = [cast.row_of[row] for row in step.spared]
    rows = [row for row in live if row in branch.rows and row not in spared]
    if step.target == "all":
        return rows
    lst = cast.list_of[step.target]
    return [row for row in rows if branch.rows[row][0] == lst]


def _guarded(guard, branch, field):
    """The part of a branch in which a guard holds, or None, and a list of the others."""
    if guard is None:
        return (branch, [])
    if len(guard) == 1:
        return (branch, []) if field.cast.is_within == (guard == ("within",)) else (None, [branch])
    left, less, sign, right, more = guard
    return branch.divided(_bounds(_worth(branch, field, left, less), sign, _worth(branch, field, right, more)))


def _shifted(step, rows, branch, field):
    """The branches behind a shift, if its guard holds, that may move some rows."""
    limits = [(sign, _worth(branch, field, base, offset)) for sign, base, offset in step.conditions]
    found = [(branch, [])]
    for row in rows:
        place = branch.rows[row][1:]
        bounds = [bound for sign, limit in limits for bound in _bounds(place, sign, limit)]
        found = [pair for some, moved in found for pair in _told(some, moved, row, bounds)]
    return [some.with_rows(_moved(branch.rows, moved, step.by)) for some, moved in found]


def _told(branch, moved, row, bounds):
    """The parts of a branch, each with the rows that move there: the row too, if all bounds hold."""
    inside, others = branch.divided(bounds)
    found = [(other, moved) for other in others]
    return found if inside is None else [*found, (inside, [*moved, row])]


def _moved(before, rows, by):
    after = dict(before)
    for row in rows:
        lst, worth, offset = before[row]
        after[row] = (lst, worth, offset + by)
    return after


def _bounds(left, sign, right):
    """The bounds that say that two integers, each an index and a constant, are as a sign says."""
    (u, more), (v, rest) = left, right
    found = []
    if sign in ("<", "<=", "="):
        found.append((u, v, rest - more - 1 if sign == "<" else rest - more))
    if sign in (">", ">=", "="):
        found.append((v, u, more - rest - 1 if sign == ">" else more - rest))
    return found


def _worth(branch, field, base, offset):
    """What a term stands for now, as the index of a number and a constant."""
    if base in field.settled:
        return (field.settled[base], offset)
    cast = field.cast
    if base in cast.row_of:
        lst, worth, more = branch.rows[cast.row_of[base]]
        return (worth, more + offset)
    worth, more = field.rows_in(branch, cast.list_of[base.removeprefix("count ")])
    return (worth, more + offset)
