"""Scenes: dense boards with calls, given by integers, and what becomes of their rows."""
from rowsinplace.boards import Board
from rowsinplace.casts import Cast
from rowsinplace.checks import is_integer
from rowsinplace.courses import Course
from rowsinplace.errors import BadNumber, BadSpot, BadWorld, OtherOperation, TooMany
from rowsinplace.handlers import TWO_LISTS, pattern
from rowsinplace.plain import NEW, arguments_of
from rowsinplace.slides import Slide

WORLDS = ("alone", "apart", "within", "itself")
RANKS = {"alone": 0, "apart": 1, "within": 2, "itself": 3}
LETTERS = "abcdefghijklmnopqrstuvwxyz"
GREATEST = 10 ** 30
MOST_ROWS = 100


def worlds_of(op):
    """The worlds of an operation."""
    arguments_of(op)
    if op == "swap":
        return ("apart", "within", "itself")
    return ("apart", "within") if op in TWO_LISTS else ("alone",)


class Scene:
    """A dense board with an allowed call, given by the world and by integers."""

    def __init__(self, op, world, *, home=0, to=0, x=0, y=0, k=0, other=0):
        if world not in worlds_of(op):
            raise BadWorld(world)
        for name, worth in (("home", home), ("to", to), ("x", x), ("y", y), ("k", k), ("other", other)):
            if not is_integer(worth) or not _fits(name, worth, op, world, home, to, x):
                raise BadNumber(name)
        self.op = op
        self.world = world
        self.home = home
        self.to = to
        self.x = x
        self.y = y
        self.k = k
        self.other = other

    @property
    def total(self):
        """The number of rows of all lists."""
        return self.home + self.to + self.other

    @property
    def key(self):
        """What the scenes of an operation are ordered by."""
        return (self.total, RANKS[self.world], self.home, self.to, self.x, self.y, self.k)

    def __eq__(self, other):
        return isinstance(other, Scene) and self.op == other.op and self.key == other.key

    def as_dict(self):
        """The numbers of the scene by their names."""
        return {"home": self.home, "to": self.to, "other": self.other, "x": self.x, "y": self.y, "k": self.k}

    def spots(self):
        """The spots of the scene in their order, one after another."""
        if self.op in NEW:
            yield ("new", 0)
        for lst, count in (("home", self.home), ("to", self.to), ("other", self.other)):
            for place in range(1, count + 1):
                yield (lst, place)

    def as_board(self):
        """The board of the scene."""
        if self.total > MOST_ROWS:
            raise TooMany(MOST_ROWS)
        board = Board()
        for spot in self.spots():
            if spot[0] != "new":
                board[spot] = self.name_of(spot)
        return board

    def arguments(self):
        """The arguments of the call by their names, for the board of the scene."""
        cast = Cast(self.op, self.world)
        worths = {"x": "x", "y": cast.row_of["y"], "to": cast.list_of["to"], "k": self.k}
        return {name: worths[name] for name in arguments_of(self.op)}

    def name_of(self, spot):
        """The name of the row of a spot on the board of the scene."""
        check_spot(self, spot)
        lst, place = spot
        if lst == "new":
            return "x"
        for row, home in Cast(self.op, self.world).homes.items():
            if spot == (home, self.as_dict()[row]):
                return row
        return lst[0] + LETTERS[(place - 1) // 26] + LETTERS[(place - 1) % 26]


def scenes(op, total):
    """All scenes of an operation with a total, ascending."""
    for world in worlds_of(op):
        for home in _range(total, "home", op, world):
            for to in _range(total - home, "to", op, world, home):
                for x in _range(home, "x", op, world, home):
                    for y, k in _ends(op, world, home, to, x):
                        yield Scene(op, world, home=home, to=to, x=x, y=y, k=k, other=total - home - to)


def fate(handler, scene, spot):
    """The list and the place of the row of a spot behind the call of a handler, or None."""
    check_operation(handler, scene)
    check_spot(scene, spot)
    return Course(handler, scene).end(spot)


def due(scene, spot):
    """The list and the place of the row of a spot behind the plain operation, or None."""
    return fate(pattern(scene.op), scene, spot)


def slides(handler, scene):
    """The slides that move the rows other than x and y, by the lists that are there."""
    check_operation(handler, scene)
    found = {lst: Slide() for lst in Cast(scene.op, scene.world).lists}
    for target, low, high, by in Course(handler, scene).shifts:
        for lst in list(found):
            if target is None or target == lst:
                found[lst] = found[lst] >> Slide((low, high, by))
    return found


def check_operation(handler, scene):
    """Raises OtherOperation if a scene is none of a handler's operation."""
    if scene.op != handler.op:
        raise OtherOperation(handler.op)


def check_spot(scene, thing):
    """Raises BadSpot if an object is no spot of a scene."""
    if not isinstance(thing, tuple) or len(thing) != 2 or not is_integer(thing[1]):
        raise BadSpot(thing)
    lst, place = thing
    if lst == "new":
        is_there = scene.op in NEW and place == 0
    else:
        is_there = lst in ("home", "to", "other") and 1 <= place <= scene.as_dict()[lst]
    if not is_there:
        raise BadSpot(thing)


def _ends(op, world, home, to, x):
    """The tuples (y, k) that fit, ascending."""
    return [
        (y, k)
        for y in _range(home + to, "y", op, world, home, to)
        for k in _range(home + to + 1, "k", op, world, home, to)
        if _fits("y", y, op, world, home, to, x)
    ]


def _range(high, name, op, world, home=0, to=0):
    """The integers up to high that may be a number of a scene with these lists."""
    least, most = _limits(name, op, world, home, to)
    return list(range(least, min(high, most) + 1))


def _fits(name, worth, op, world, home, to, x):
    """Whether an integer may be a number of a scene, if those ahead of it fit."""
    least, most = _limits(name, op, world, home, to)
    if name == "y" and world == "within" and worth == x:
        return False
    return least <= worth <= most


def _limits(name, op, world, home, to):
    """The least and the greatest integer that may be a number of a scene."""
    if name == "home":
        least = 2 if op == "swap" and world == "within" else 1
        return (0, 0) if op in NEW else (least, GREATEST)
    if name == "to":
        least = 1 if op == "swap" else 0
        return (least, GREATEST) if op in NEW or world == "apart" else (0, 0)
    if name == "x":
        return (0, 0) if op in NEW else (1, home)
    if name == "y":
        return _limits_of_y(op, world, home, to)
    if name == "k":
        return _limits_of_k(op, world, home, to)
    return (0, GREATEST)


def _limits_of_y(op, world, home, to):
    if op != "swap" or world == "itself":
        return (0, 0)
    return (1, to) if world == "apart" else (1, home)


def _limits_of_k(op, world, home, to):
    if op not in ("put", "move"):
        return (0, 0)
    return (1, home) if world == "within" else (1, min(to + 1, GREATEST))
