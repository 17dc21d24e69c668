"""Verdicts: whether handlers are right, alike or dense in all scenes, or the least one that shows a fault."""
from rowsinplace.courses import Course
from rowsinplace.errors import OtherOperation
from rowsinplace.handlers import pattern
from rowsinplace.regions import least, narrowed
from rowsinplace.runs import Branch, Field, play
from rowsinplace.scenes import RANKS, WORLDS, Scene, scenes, worlds_of
from rowsinplace.tables import check_comparisons, followed, kinds_of

MOST_COMPARISONS = 6
MOST_DENSE = 4

# Faults nearly always show in scenes with so few rows, and these are quickly looked through.
FEW = 3


class Verdict:
    """The answer to a question about all scenes: it holds, or there is a scene with a fault."""

    def __init__(self, scene, fault):
        self.scene = scene
        self.fault = fault

    @property
    def holds(self):
        """Whether there is no fault."""
        return self.scene is None

    def __bool__(self):
        return self.scene is None


def right(handler):
    """Whether a handler does what its operation does."""
    check_comparisons(handler.comparisons, MOST_COMPARISONS)
    return _compared(handler, pattern(handler.op))


def alike(first, second):
    """Whether two handlers of an operation do the same."""
    if first.op != second.op:
        raise OtherOperation(second.op)
    check_comparisons(first.comparisons + second.comparisons, MOST_COMPARISONS)
    return _compared(first, second)


def dense(handler):
    """Whether a handler leaves all dense boards dense."""
    check_comparisons(handler.comparisons, MOST_DENSE)
    for total in range(FEW + 1):
        for scene in scenes(handler.op, total):
            fault = _gap(handler, scene)
            if fault is not None:
                return Verdict(scene, fault)
    scene = _least_scene(handler.op, _gaps(handler))
    return Verdict(None, None) if scene is None else Verdict(scene, _gap(handler, scene))


def _compared(first, second):
    """The verdict whether two handlers of an operation do the same."""
    for total in range(FEW + 1):
        for scene in scenes(first.op, total):
            fault = _difference(first, second, scene)
            if fault is not None:
                return Verdict(scene, fault)
    scene = _least_scene(first.op, _differences(first, second))
    return Verdict(None, None) if scene is None else Verdict(scene, _difference(first, second, scene))


def _difference(first, second, scene):
    """The first spot whose fates are different in a scene, with both fates, or None."""
    course, other = Course(first, scene), Course(second, scene)
    for spot in scene.spots():
        end, due = course.end(spot), other.end(spot)
        if end != due:
            return (spot, end, due)
    return None


def _differences(first, second):
    """Where two handlers do not the same, as fields and regions."""
    found = []
    for world in worlds_of(first.op):
        for kind in kinds_of(first.op, world):
            field, row = followed(first.op, world, kind)
            for branch in play(first, field, [row], field.starts()):
                again = Branch(branch.region, branch.path, field.rows)
                for other in play(second, field, [row], [again]):
                    parts = _unlike(other.region, branch.rows.get(row), other.rows.get(row))
                    found.extend([(field, part) for part in parts])
    return found


def _unlike(region, end, other):
    """The parts of a region in which two ends are different."""
    if end is None or other is None or end[0] != other[0]:
        return [] if end == other else [region]
    u, v, c = end[1], other[1], other[2] - end[2]
    parts = [narrowed(region, (u, v, c - 1)), narrowed(region, (v, u, -c - 1))]
    return [part for part in parts if part is not None]


def _gap(handler, scene):
    """What keeps the board behind a call in a scene from being dense, or None."""
    course = Course(handler, scene)
    ends = [(spot, course.end(spot)) for spot in scene.spots()]
    ends = [(spot, end) for spot, end in ends if end is not None]
    for spot, (lst, place) in ends:
        if place < 1:
            return ("low", spot)
    for spot, (lst, place) in ends:
        if place > course.size_of(lst):
            return ("high", spot)
    return _first_double(ends)


def _first_double(ends):
    """The first two spots whose rows come to one place of a list, or None."""
    there = {}
    for spot, end in ends:
        there.setdefault(end, []).append(spot)
    for spot, end in ends:
        if len(there[end]) > 1:
            return ("double", spot, there[end][1])
    return None


def _gaps(handler):
    """Where a handler does not leave a dense board, as fields and regions."""
    found = []
    for world in worlds_of(handler.op):
        for rows, kinds in _rows_together(handler.op, world):
            field = Field(handler.op, world, kinds)
            for branch in play(handler, field, rows, field.starts()):
                found.extend([(field, part) for part in _gaps_of(branch, rows, field)])
    return found


def _rows_together(op, world):
    """The rows to look at, alone and two at a time, each with the kinds of those besides x and y."""
    field = Field(op, world, ())
    named = ["x", "y"] if "y" in field.rows else ["x"]
    found = [([row], ()) for row in named]
    if len(named) == 2:
        found.append((named, ()))
    for lst in field.cast.lists:
        found.append((["row"], (lst,)))
        found.append((["row", "next"], (lst, lst)))
        # Rows x and y never come to the list other.
        found.extend([([row, "row"], (lst,)) for row in named if lst != "other"])
    return found


def _gaps_of(branch, rows, field):
    """The parts of a branch in which a row is too low or too high, or two rows are at one place."""
    ends = [branch.rows[row] for row in rows if row in branch.rows]
    if len(ends) < len(rows):
        return []
    if len(ends) == 2:
        return _doubles(branch.region, *ends)
    lst, worth, offset = ends[0]
    last, more = field.rows_in(branch, lst)
    parts = [narrowed(branch.region, bound) for bound in ((worth, 0, -offset), (last, worth, offset - more - 1))]
    return [part for part in parts if part is not None]


def _doubles(region, end, other):
    """The part of a region in which two ends are the same, as a list without it if it is empty."""
    if end[0] != other[0]:
        return []
    region = narrowed(region, (end[1], other[1], other[2] - end[2]))
    if region is not None:
        region = narrowed(region, (other[1], end[1], end[2] - other[2]))
    return [] if region is None else [region]


def _least_scene(op, parts):
    """The least scene of regions, each with the field that tells its numbers; None without any."""
    keys = [_key(field, region) for field, region in parts]
    if not keys:
        return None
    total, world, home, to, x, y, k = min(keys)
    return Scene(op, WORLDS[world], home=home, to=to, x=x, y=y, k=k, other=total - home - to)


def _key(field, region):
    """The key of the least scene of a region."""
    numbers = {"home": 0, "to": 0, "other": 0, "x": 0, "y": 0, "k": 0}
    for name, worth in zip(field.names, least(region)):
        numbers[name] = worth
    total = numbers["home"] + numbers["to"] + numbers["other"]
    return (total, RANKS[field.world], numbers["home"], numbers["to"], numbers["x"], numbers["y"], numbers["k"])
