"""Tables: where the rows of a kind come to, told for all scenes of a world by bounds."""
from rowsinplace.casts import Cast
from rowsinplace.errors import BadKind, BadWorld, TooMany
from rowsinplace.fields import followed, has_place, played
from rowsinplace.scenes import worlds_of

MOST_COMPARISONS = 6


def kinds_of(op, world):
    """The kinds of the rows in the scenes of an operation and a world."""
    if world not in worlds_of(op):
        raise BadWorld(world)
    cast = Cast(op, world)
    rows = ("x", "y") if "y" in cast.homes else ("x",)
    return (*rows, *cast.lists)


def numbers_of(op, world, kind):
    """The names of the numbers of a kind."""
    check_kind(op, world, kind)
    cast = Cast(op, world)
    named = [row for row in ("x", "y") if row in cast.homes]
    place = ["k"] if has_place(op) else []
    spot = ["row"] if kind in cast.lists else []
    return (*cast.lists, *named, *place, *spot)


def table(handler, world, kind):
    """The table of a handler for a world and a kind."""
    check_kind(handler.op, world, kind)
    check_comparisons(handler.comparisons, MOST_COMPARISONS)
    field, row = followed(handler.op, world, kind)
    return [_entry(branch, row, field.names) for branch in played(handler, world, field, [row], field.starts())]


def check_kind(op, world, kind):
    """Raises BadOperation, BadWorld or BadKind of what is none."""
    if kind not in kinds_of(op, world):
        raise BadKind(kind)


def check_comparisons(count, limit):
    """Raises TooMany if there are more comparisons than a question may have."""
    if count > limit:
        raise TooMany(limit)


def told_end(end, names):
    """An end as it is told: with the name of its number in the place of the index."""
    if end is None:
        return None
    lst, number, offset = end
    return (lst, names[number], offset)


def _entry(branch, row, names):
    bounds = [(names[u], names[v], c) for u, v, c in branch.path]
    return (tuple(bounds), told_end(branch.rows.get(row), names))
