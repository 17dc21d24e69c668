"""Clashes: whether a database that looks at a handler row by row ever stops it."""
from rowsinplace.casts import Cast
from rowsinplace.errors import BadVisit, Clash
from rowsinplace.fields import scene_caller, scene_field
from rowsinplace.gaps import paired_rows
from rowsinplace.regions import meeting
from rowsinplace.runs import behind, changes, lives
from rowsinplace.scenes import worlds_of
from rowsinplace.stages import Stage
from rowsinplace.steps import Shift, Write
from rowsinplace.tables import check_comparisons
from rowsinplace.verdicts import decided

MOST_COMPARISONS = 4


def clash(handler, visit):
    """Whether no call of a handler with a visit clashes."""
    if visit not in ("up", "down", "any"):
        raise BadVisit(visit)
    check_comparisons(handler.comparisons, MOST_COMPARISONS)
    return decided(
        handler.op,
        lambda scene: _fault(handler, scene, visit),
        lambda: _parts(handler, visit),
    )


def _fault(handler, scene, visit):
    """The step that clashes in a scene, and the spots of its rows, or None."""
    stage = Stage(scene)
    spots = stage.copied()
    call = stage.call(spots)
    found = _first_meeting(handler, call, spots) if visit == "any" else _first_clash(handler, call, spots, visit)
    if found is None:
        return None
    index, row, other = found
    return (index, stage.spot_of(row), stage.spot_of(other))


def _first_clash(handler, call, spots, visit):
    """The arguments of the clash of a call with a visit, or None."""
    try:
        for index, step in enumerate(handler.steps):
            call.carry_out(spots, index, step, visit)
    except Clash as found:
        return (found.step, found.row, found.other)
    return None


def _first_meeting(handler, call, spots):
    """The first step of a call that may clash, its first row that does, and the other row; or None."""
    for index, step in enumerate(handler.steps):
        there = {}
        for row in spots:
            there.setdefault(spots[row], []).append(row)
        for row, spot in call.changes(spots, step):
            others = [other for other in there.get(spot, []) if other != row]
            if others:
                return (index, row, others[0])
        call.carry_out(spots, index, step, None)
    return None


def _parts(handler, visit):
    """Where calls of a handler with a visit clash: worlds and least numbers.

    A call clashes exactly if one of its steps does when those ahead of it are not looked at: if
    two rows came to one place ahead of it, a step clashed as they did.
    """
    found = []
    for world in worlds_of(handler.op):
        cast = Cast(handler.op, world)
        for rows, kinds in paired_rows(cast.named, cast.lists):
            field = scene_field(handler.op, world, kinds)
            events = scene_caller(handler, world, field).events()
            found.extend([(world, field.told(part)) for part in _clashes(events, rows, field, visit)])
    return found


def _clashes(events, rows, field, visit):
    """The parts of the scenes of a field in which one of two rows comes to where the other one is."""
    found = []
    branches = field.starts()
    for event, live in zip(events, lives(events, [])):
        live = [*rows, *[row for row in live if row not in rows]]
        if isinstance(event[1], (Shift, Write)):
            found.extend([part for branch in branches for part in _met(event, rows, branch, field, visit)])
        branches = [after for branch in branches for after in behind(event, live, branch, field)]
    return found


def _met(event, rows, branch, field, visit):
    """The parts of a branch in which a step brings one of two rows to where the other one is."""
    row, other = rows
    parts, _ = changes(event, rows, branch, field)
    found = []
    for part, changed in parts:
        for mover, stander in ((row, other), (other, row)):
            if mover in changed and not (stander in changed and _makes_way(event[1], visit)):
                found.extend(meeting(part.region, changed[mover], part.rows.get(stander)))
    return found


def _makes_way(step, visit):
    """Whether a row that a shift moves is away when another one comes to where it was."""
    return visit == ("up" if step.by < 0 else "down")
