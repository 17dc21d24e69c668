"""Runs: calls in all scenes of a world at once.

The places of rows are told as a number of the scene plus a constant. Where a step asks how two
such places lie, the scenes are parted, if they do not all have the same answer. What is run are
events: tuples of a caller and a step of its handler, or None as its call begins.
"""
from rowsinplace.regions import least, narrowed, parted, whole
from rowsinplace.steps import Drop, Write


class Branch:
    """Scenes in which all went alike so far.

    They have a region, the bounds that were asked, the rows in a dict to ends, and what the words
    of the calls mean that have begun.
    """

    def __init__(self, region, path, rows, senses):
        self.region = region
        self.path = path
        self.rows = rows
        self.senses = senses

    def divided(self, bounds):
        """The branch in which all bounds hold, or None, and a list of the others."""
        inside = self
        others = []
        for bound in bounds:
            yes, no = parted(inside.region, bound)
            if yes is None:
                return (None, [*others, inside])
            if no is not None:
                u, v, c = bound
                others.append(Branch(no, (*inside.path, (v, u, -c - 1)), self.rows, self.senses))
                inside = Branch(yes, (*inside.path, bound), self.rows, self.senses)
        return (inside, others)

    def with_rows(self, rows):
        """The same scenes, with rows at other spots."""
        return Branch(self.region, self.path, rows, self.senses)

    def with_sense(self, name, sense):
        """The same scenes, with a call that has begun."""
        return Branch(self.region, self.path, self.rows, {**self.senses, name: sense})


class Field:
    """The numbers of some scenes, and the rows that are told apart in them, by their lists."""

    def __init__(self, names, homes, bounds, lasts):
        self.names = ("zero", *names)
        self.ranks = {name: index for index, name in enumerate(self.names)}
        self.homes = homes
        self.rows = {row: (homes[row], self.ranks[row], 0) for row in homes}
        # The numbers that are the last places of the lists before all calls.
        self.lasts = lasts
        self._bounds = bounds

    def starts(self):
        """The branches before a call, one for each order of the rows that are told apart."""
        region = whole(len(self.names) - 1)
        for u, v, c in self._bounds:
            region = narrowed(region, (self.ranks[u], self.ranks[v], c))
        found = [Branch(region, (), self.rows, {})]
        rows = list(self.homes)
        for index, other in enumerate(rows):
            for row in rows[:index]:
                if self.homes[row] == self.homes[other]:
                    pair = (self.ranks[row], self.ranks[other])
                    found = [part for branch in found for part in _ordered(branch, pair, row == "row")]
        return found

    def again(self, branch):
        """The scenes of a branch, before all calls."""
        return Branch(branch.region, branch.path, self.rows, {})

    def rows_in(self, branch, lst):
        """The number of rows of a list now, as the index of a number and a constant."""
        now = [row for row in branch.rows if branch.rows[row][0] == lst]
        before = [row for row in self.homes if self.homes[row] == lst]
        return (self.ranks[lst], len(now) - len(before))

    def told(self, region):
        """The least values of the numbers in a region, by their names."""
        return {name: worth for name, worth in zip(self.names, least(region))}


class Caller:
    """One of the calls of a run: its handler, and what its rows, its list to and its place k are.

    The list to is None where it is the list of y; k is the index of a number and a constant.
    """

    def __init__(self, name, handler, rows, to, k):
        self.name = name
        self.rows = rows
        self.to = to
        self.k = k
        self.steps = handler.steps
        self.bases = [base for step in handler.steps for base in step.reads()]

    def events(self):
        """What is run if the call is alone: its beginning, and its steps."""
        return [(self, None), *[(self, step) for step in self.steps]]


class Sense:
    """What the words of a call mean from its beginning on, in the scenes of a branch."""

    def __init__(self, caller, branch, field):
        self.rows = caller.rows
        self.lists = _lists(caller, branch)
        self.is_within = self.lists.get("home") == self.lists.get("to")
        self._settled = _settled(caller, self.lists, branch, field)

    def worth(self, branch, field, base, offset):
        """What a term stands for now, as the index of a number and a constant."""
        if base in self._settled:
            number, more = self._settled[base]
        elif base in self.rows:
            number, more = branch.rows[self.rows[base]][1:]
        else:
            number, more = field.rows_in(branch, self.lists[base.removeprefix("count ")])
        return (number, more + offset)


def play(events, field, watched, branches):
    """The branches behind events; of the rows, the places of those that are watched are told."""
    for event, live in zip(events, lives(events, watched)):
        branches = [after for branch in branches for after in behind(event, live, branch, field)]
    return branches


def lives(events, watched):
    """For each event the rows whose places still matter behind it."""
    live = list(watched)
    found = []
    for event in events[::-1]:
        found.append(live)
        read = _read(event)
        kept = [row for row in live if row not in _overwritten(event)]
        live = [*read, *[row for row in kept if row not in read]]
    return found[::-1]


def behind(event, live, branch, field):
    """The branches that a branch becomes behind an event."""
    caller, step = event
    if step is None:
        return [branch.with_sense(caller.name, Sense(caller, branch, field))]
    if isinstance(step, Drop):
        gone = caller.rows["x"]
        return [branch.with_rows({row: branch.rows[row] for row in branch.rows if row != gone})]
    parts, others = changes(event, live, branch, field)
    return [*others, *[part.with_rows({**part.rows, **changed}) for part, changed in parts]]


def changes(event, rows, branch, field):
    """What a shift or a write changes of some rows.

    That is a list of the parts of a branch in which the guard holds, if there are rows that it may
    change, each with a dict from the rows it changes to their ends; and a list of the other parts.
    """
    caller, step = event
    sense = branch.senses[caller.name]
    rows = _concerned(step, rows, branch, sense)
    if not rows:
        return ([], [branch])
    inside, others = _guarded(step.guard, branch, field, sense)
    if inside is None:
        return ([], others)
    if isinstance(step, Write):
        base, offset = step.term
        number, more = sense.worth(inside, field, base, offset)
        end = (sense.lists[step.target], number, more)
        return ([(inside, {sense.rows[step.row]: end})], others)
    return (_shifted(step, rows, inside, field, sense), others)


def _ordered(branch, pair, is_settled):
    """The parts of a branch in which one of two rows is ahead of the other one, or just the first is."""
    row, other = pair
    bounds = [(row, other, -1)] if is_settled else [(row, other, -1), (other, row, -1)]
    parts = [(narrowed(branch.region, bound), (*branch.path, bound)) for bound in bounds]
    parts = [(region, path) for region, path in parts if region is not None]
    if len(parts) == 1:
        # Nothing was asked.
        parts = [(parts[0][0], branch.path)]
    return [Branch(region, path, branch.rows, branch.senses) for region, path in parts]


def _lists(caller, branch):
    """The lists home and to of a call as it begins, as far as it has them."""
    found = {}
    if caller.rows["x"] in branch.rows:
        found["home"] = branch.rows[caller.rows["x"]][0]
    if caller.to is not None:
        found["to"] = caller.to
    elif "y" in caller.rows:
        found["to"] = branch.rows[caller.rows["y"]][0]
    return found


def _settled(caller, lists, branch, field):
    """What the bases are worth that stay as they are when a call begins, each as in Sense.worth."""
    found = {"0": (0, 0), "k": caller.k}
    for word, row in caller.rows.items():
        if row in branch.rows:
            found[f"old {word}"] = branch.rows[row][1:]
    for word, lst in lists.items():
        found[f"old count {word}"] = field.rows_in(branch, lst)
        if lst in field.lasts:
            found[f"old last {word}"] = (field.ranks[field.lasts[lst]], 0)
    return found


def _read(event):
    """The rows whose places an event reads."""
    caller, step = event
    if step is None:
        return [row for word, row in caller.rows.items() if f"old {word}" in caller.bases]
    return [caller.rows[base] for base in step.reads() if base in caller.rows]


def _overwritten(event):
    """The rows whose places ahead of an event do not matter behind it."""
    caller, step = event
    if isinstance(step, Drop) or (isinstance(step, Write) and step.guard is None):
        return [caller.rows[step.row]]
    return []


def _concerned(step, rows, branch, sense):
    """Those of some rows that a step may change; a written row also if it may come to another list."""
    if isinstance(step, Write):
        row, lst = sense.rows[step.row], sense.lists[step.target]
        stays = row in branch.rows and branch.rows[row][0] == lst
        return [row] if row in rows or not stays else []
    spared = [sense.rows[word] for word in step.spared]
    rows = [row for row in rows if row in branch.rows and row not in spared]
    if step.target == "all":
        return rows
    return [row for row in rows if branch.rows[row][0] == sense.lists[step.target]]


def _guarded(guard, branch, field, sense):
    """The part of a branch in which a guard holds, or None, and a list of the others."""
    if guard is None:
        return (branch, [])
    if len(guard) == 1:
        return (branch, []) if sense.is_within == (guard == ("within",)) else (None, [branch])
    left, less, sign, right, more = guard
    first, second = sense.worth(branch, field, left, less), sense.worth(branch, field, right, more)
    return branch.divided(_bounds(first, sign, second))


def _shifted(step, rows, branch, field, sense):
    """The parts of a branch behind a shift, if its guard holds, that may move some rows."""
    limits = [(sign, sense.worth(branch, field, base, offset)) for sign, base, offset in step.conditions]
    found = [(branch, {})]
    for row in rows:
        lst, number, offset = branch.rows[row]
        bounds = [bound for sign, limit in limits for bound in _bounds((number, offset), sign, limit)]
        end = (lst, number, offset + step.by)
        found = [pair for part, moved in found for pair in _parts(part, moved, bounds, row, end)]
    return found


def _parts(branch, moved, bounds, row, end):
    """The parts of a branch with the rows that move there: the row, too, if all bounds hold."""
    inside, others = branch.divided(bounds)
    found = [(other, moved) for other in others]
    return found if inside is None else [*found, (inside, {**moved, row: end})]


def _bounds(left, sign, right):
    """The bounds that say that two integers, each an index and a constant, are as a sign says."""
    (u, more), (v, rest) = left, right
    found = []
    if sign in ("<", "<=", "="):
        found.append((u, v, rest - more - 1 if sign == "<" else rest - more))
    if sign in (">", ">=", "="):
        found.append((v, u, more - rest - 1 if sign == ">" else more - rest))
    return found
