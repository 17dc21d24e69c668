"""Undoing: whether one call brings back each row that another one has moved."""
from rowsinplace.calls import Call
from rowsinplace.errors import BadPair
from rowsinplace.fields import followed, has_list, scene_caller
from rowsinplace.handlers import has_last
from rowsinplace.plain import NEW
from rowsinplace.regions import unlike
from rowsinplace.runs import Caller, play
from rowsinplace.scenes import worlds_of
from rowsinplace.stages import KEYS, Stage
from rowsinplace.tables import check_comparisons, kinds_of
from rowsinplace.verdicts import decided

MOST_COMPARISONS = 6

# The operations whose calls may follow one that brings a new row: they name that row alone.
ALONE = ("take", "top", "bottom", "up", "down")


def undoes(first, second):
    """Whether a call of second with the same row brings back what a call of first has moved."""
    if not _fit(first, second):
        raise BadPair(first.op, second.op)
    check_comparisons(first.comparisons + second.comparisons, MOST_COMPARISONS)
    return decided(
        first.op,
        lambda scene: _fault(first, second, scene),
        lambda: _parts(first, second),
    )


def _fit(first, second):
    """Whether it can be asked if a handler undoes another one."""
    if has_last(second):
        return False
    if first.op in NEW:
        return first.has_row and second.op in ALONE
    if not first.has_row:
        return second.op in NEW
    return second.op not in NEW and (second.op != "swap" or first.op == "swap")


def _fault(first, second, scene):
    """The first spot of a scene whose row is not back behind both calls, and where it is; or None."""
    stage = Stage(scene)
    spots = stage.copied()
    _carry_out(first, stage.call(spots), spots)
    _carry_out(second, _call_back(second, stage, spots), spots)
    for spot in scene.spots():
        key = stage.key_of[spot]
        if spots.get(key) != stage.places.get(key):
            return (spot, spots.get(key))
    return None


def _carry_out(handler, call, spots):
    for index, step in enumerate(handler.steps):
        call.carry_out(spots, index, step, None)


def _call_back(handler, stage, spots):
    """The second call of a scene, as it begins with the rows at some spots."""
    y = KEYS[stage.cast.row_of["y"]] if handler.op == "swap" else None
    if KEYS["x"] not in stage.places:
        return Call(spots, KEYS["x"], y, None, None)
    lst, place = stage.places[KEYS["x"]]
    return Call(spots, KEYS["x"], y, lst if has_list(handler.op) else None, place)


def _parts(first, second):
    """Where a row is not back behind both calls: worlds and least numbers."""
    found = []
    for world in worlds_of(first.op):
        for kind in kinds_of(first.op, world):
            field, row = followed(first.op, world, kind)
            caller = scene_caller(first, world, field)
            other = _caller_back(second, caller, field)
            events = caller.events() + other.events()
            for branch in play(events, field, [row], field.starts()):
                parts = unlike(branch.region, branch.rows.get(row), field.rows.get(row))
                found.extend([(world, field.told(part)) for part in parts])
    return found


def _caller_back(handler, caller, field):
    """The caller of the second call, behind that of the first one."""
    rows = caller.rows if handler.op == "swap" else {"x": "x"}
    if "x" not in field.rows:
        return Caller("b", handler, rows, None, None)
    lst, place, _ = field.rows["x"]
    return Caller("b", handler, rows, lst if has_list(handler.op) else None, (place, 0))
