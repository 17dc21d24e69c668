"""Rules: whether handlers leave dense boards dense, and boards without two rows at one place so."""
from rowsinplace.casts import Cast
from rowsinplace.errors import BadRule
from rowsinplace.fields import has_place, homes_of, place_bound, played
from rowsinplace.gaps import double_parts, looked_at, low_parts
from rowsinplace.regions import narrowed
from rowsinplace.runs import Branch, Field
from rowsinplace.scenes import worlds_of
from rowsinplace.tables import check_comparisons
from rowsinplace.verdicts import dense

MOST_COMPARISONS = 4

LISTS = ("home", "to", "other")

# The names of the numbers that are the last places of lists.
LASTS = {"home": "lasthome", "to": "lastto"}


class Kept:
    """The answer whether a handler keeps a rule: it does, or there are a board and a call that break it."""

    def __init__(self, handler, world, lists, numbers):
        self.handler = handler
        self.world = world
        self.lists = lists
        self.numbers = numbers

    @property
    def holds(self):
        """Whether the rule is kept."""
        return self.world is None

    def __bool__(self):
        return self.world is None


def keeps(handler, rule):
    """Whether a handler keeps a rule."""
    if rule not in ("dense", "unlike"):
        raise BadRule(rule)
    check_comparisons(handler.comparisons, MOST_COMPARISONS)
    return _keeps_dense(handler) if rule == "dense" else _keeps_unlike(handler)


def strongest(*handlers):
    """The strongest rule that all handlers keep."""
    for handler in handlers:
        check_comparisons(handler.comparisons, MOST_COMPARISONS)
    if all([dense(handler).holds for handler in handlers]):
        return "dense"
    return "unlike" if all([_keeps_unlike(handler).holds for handler in handlers]) else "none"


def _keeps_dense(handler):
    scene = dense(handler).scene
    if scene is None:
        return Kept(handler, None, None, None)
    numbers = scene.as_dict()
    lists = {lst: tuple(range(1, numbers[lst] + 1)) for lst in LISTS}
    return Kept(handler, scene.world, lists, {name: numbers[name] for name in ("x", "y", "k")})


def _keeps_unlike(handler):
    """The answer whether a handler keeps boards unlike: of all parts with a fault, a least board."""
    found = None
    for world in worlds_of(handler.op):
        cast = Cast(handler.op, world)
        for rows, kinds in looked_at(cast.named, cast.lists):
            field = _field(handler, cast, world, kinds)
            for branch in played(handler, world, field, rows, _starts(field)):
                parts = low_parts(branch, rows[0]) if len(rows) == 1 else double_parts(branch, *rows)
                for numbers in [field.told(part) for part in parts]:
                    if found is None or _total(numbers) < _total(found[2]):
                        found = (world, field.homes, numbers)
    if found is None:
        return Kept(handler, None, None, None)
    world, homes, numbers = found
    lists = {lst: _places(lst, homes, numbers) for lst in LISTS}
    return Kept(handler, world, lists, {name: numbers.get(name, 0) for name in ("x", "y", "k")})


def _total(numbers):
    """The number of rows of a board, by its numbers."""
    return sum([numbers.get(lst, 0) for lst in LISTS])


def _field(handler, cast, world, kinds):
    """The field of the unlike boards with calls of a handler, with rows of up to two kinds besides x and y.

    A list counts its rows; its last place is a number of its own if the handler reads it.
    """
    homes = homes_of(cast, kinds)
    lists = [lst for lst in cast.lists if lst != "other" or lst in kinds]
    lasts = {lst: LASTS[lst] for lst in lists if lst in _read_to_the_end(handler, cast)}
    bounds = [("zero", lst, -len([row for row in homes if homes[row] == lst])) for lst in lists]
    bounds.extend([("zero", row, -1) for row in homes])
    bounds.extend([(row, lasts[homes[row]], 0) for row in homes if homes[row] in lasts])
    bounds.extend([(lst, last, 0) for lst, last in lasts.items()])
    place = ["k"] if has_place(handler.op) else []
    if place:
        bounds.extend([("zero", "k", -1), place_bound(world)])
    return Field([*lists, *[lasts[lst] for lst in lasts], *place, *homes], homes, bounds, lasts)


def _read_to_the_end(handler, cast):
    """The lists whose last place a handler reads."""
    bases = [base for step in handler.steps for base in step.reads() if base.startswith("old last ")]
    return [cast.list_of[base.removeprefix("old last ")] for base in bases]


def _starts(field):
    """The branches before a call, for each way in which rows may stand last."""
    branches = field.starts()
    for lst in field.lasts:
        ways = _ways(lst, field)
        branches = [part for branch in branches for way in ways for part in _within(branch, way)]
    return branches


def _ways(lst, field):
    """The ways in which a list may have its last place, as lists of bounds.

    A row that is told apart stands there, or one that is not; or the list has no row.
    """
    count, last = field.ranks[lst], field.ranks[field.lasts[lst]]
    rows = [field.ranks[row] for row in field.homes if field.homes[row] == lst]
    further = [(0, count, -len(rows) - 1), *[(row, last, -1) for row in rows]]
    if not rows:
        return [further, [(count, 0, 0), (last, 0, 0)]]
    return [further, *[[(last, row, 0)] for row in rows]]


def _within(branch, bounds):
    """The part of a branch in which bounds hold, as a list; empty without such a part."""
    region = branch.region
    for bound in bounds:
        region = None if region is None else narrowed(region, bound)
    return [] if region is None else [Branch(region, branch.path, branch.rows, branch.senses)]


def _places(lst, homes, numbers):
    """The places of a list: those of the rows that are told apart, the last one, and the first free ones."""
    found = [numbers[row] for row in homes if homes[row] == lst]
    last = numbers.get(LASTS[lst], 0) if lst in LASTS else 0
    if last > 0 and last not in found:
        found.append(last)
    count = numbers.get(lst, 0)
    free = [place for place in range(1, count + len(found) + 1) if place not in found]
    return tuple(sorted([*found, *free[:count - len(found)]]))
