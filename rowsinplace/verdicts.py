"""Verdicts: whether handlers are right, alike or dense in all scenes, or the least one that shows a fault."""
from rowsinplace.casts import Cast
from rowsinplace.courses import Course
from rowsinplace.errors import OtherOperation
from rowsinplace.fields import followed, played, scene_field
from rowsinplace.handlers import pattern
from rowsinplace.gaps import first_gap, gap_parts, looked_at
from rowsinplace.regions import unlike
from rowsinplace.scenes import RANKS, WORLDS, Scene, scenes, worlds_of
from rowsinplace.tables import check_comparisons, kinds_of

MOST_COMPARISONS = 6
MOST_DENSE = 4

# Faults nearly always show in scenes with so few rows, and these are quickly looked through.
FEW = 3


class Verdict:
    """The answer to a question about all scenes: it holds, or there is a scene with a fault."""

    def __init__(self, scene, fault):
        self.scene = scene
        self.fault = fault

    @property
    def holds(self):
        """Whether there is no fault."""
        return self.scene is None

    def __bool__(self):
        return self.scene is None


def right(handler):
    """Whether a handler does what its operation does."""
    check_comparisons(handler.comparisons, MOST_COMPARISONS)
    return _compared(handler, pattern(handler.op))


def alike(first, second):
    """Whether two handlers of an operation do the same."""
    if first.op != second.op:
        raise OtherOperation(second.op)
    check_comparisons(first.comparisons + second.comparisons, MOST_COMPARISONS)
    return _compared(first, second)


def dense(handler):
    """Whether a handler leaves all dense boards dense."""
    check_comparisons(handler.comparisons, MOST_DENSE)
    return decided(
        handler.op,
        lambda scene: _gap(handler, scene),
        lambda: _gaps(handler),
    )


def decided(op, fault_in, parts):
    """The verdict about the scenes of an operation.

    It rests on functions: what tells the fault in a scene, None without one, and what tells the
    worlds and least numbers of all parts of the scenes in which there is a fault.
    """
    for total in range(FEW + 1):
        for scene in scenes(op, total):
            fault = fault_in(scene)
            if fault is not None:
                return Verdict(scene, fault)
    keys = [_key(world, numbers) for world, numbers in parts()]
    if not keys:
        return Verdict(None, None)
    total, world, home, to, x, y, k = min(keys)
    scene = Scene(op, WORLDS[world], home=home, to=to, x=x, y=y, k=k, other=total - home - to)
    return Verdict(scene, fault_in(scene))


def _compared(first, second):
    """The verdict whether two handlers of an operation do the same."""
    return decided(
        first.op,
        lambda scene: _difference(first, second, scene),
        lambda: _differences(first, second),
    )


def _difference(first, second, scene):
    """The first spot whose fates are different in a scene, with both fates, or None."""
    course, other = Course(first, scene), Course(second, scene)
    for spot in scene.spots():
        end, due = course.end(spot), other.end(spot)
        if end != due:
            return (spot, end, due)
    return None


def _differences(first, second):
    """Where two handlers do not the same: worlds and least numbers."""
    found = []
    for world in worlds_of(first.op):
        for kind in kinds_of(first.op, world):
            field, row = followed(first.op, world, kind)
            for branch in played(first, world, field, [row], field.starts()):
                for other in played(second, world, field, [row], [field.again(branch)]):
                    parts = unlike(other.region, branch.rows.get(row), other.rows.get(row))
                    found.extend([(world, field.told(part)) for part in parts])
    return found


def _gap(handler, scene):
    """What keeps the board behind a call in a scene from being dense, or None."""
    course = Course(handler, scene)
    ends = [(spot, course.end(spot)) for spot in scene.spots()]
    return first_gap([(spot, end) for spot, end in ends if end is not None])


def _gaps(handler):
    """Where a handler does not leave a dense board: worlds and least numbers."""
    found = []
    for world in worlds_of(handler.op):
        cast = Cast(handler.op, world)
        for rows, kinds in looked_at(cast.named, cast.lists):
            field = scene_field(handler.op, world, kinds)
            for branch in played(handler, world, field, rows, field.starts()):
                found.extend([(world, field.told(part)) for part in gap_parts(branch, rows, field)])
    return found


def _key(world, numbers):
    """The key of a scene, by numbers that it has."""
    home, to, other, x, y, k = [numbers.get(name, 0) for name in ("home", "to", "other", "x", "y", "k")]
    return (home + to + other, RANKS[world], home, to, x, y, k)
