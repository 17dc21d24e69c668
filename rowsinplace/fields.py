"""Fields of scenes: the numbers and the rows of all scenes of an operation and a world, to be run."""
from rowsinplace.casts import Cast
from rowsinplace.runs import Caller, Field, play

# The names of a row of a kind, and of another row of a kind, behind it if it is of the same kind.
SOME = ("row", "next")


def scene_field(op, world, kinds, is_whole=False):
    """The field of the scenes, with rows of up to two kinds besides x and y.

    The number of rows of the list other counts only for its rows, or in the whole field.
    """
    cast = Cast(op, world)
    homes = homes_of(cast, kinds)
    lists = [lst for lst in cast.lists if lst != "other" or lst in kinds or is_whole]
    place = ["k"] if has_place(op) else []
    names = [*lists, *cast.homes, *place, *SOME[:len(kinds)]]
    # The lists are dense, so the last place is the number of rows.
    return Field(names, homes, standing_bounds(world, homes, names), {lst: lst for lst in lists})


def followed(op, world, kind, is_whole=False):
    """The scenes with a row of a kind, and the name of this row in them."""
    if kind in ("x", "y"):
        return (scene_field(op, world, (), is_whole), kind)
    return (scene_field(op, world, (kind,), is_whole), "row")


def homes_of(cast, kinds):
    """The lists of the rows that are told apart."""
    return {**cast.homes, **{row: lst for row, lst in zip(SOME, kinds)}}


def has_place(op):
    """Whether an operation has the place k."""
    return op in ("put", "move")


def standing_bounds(world, homes, names):
    """The bounds that all scenes of a world satisfy, over some names; homes has the lists of rows."""
    found = []
    for name in names:
        if name in ("home", "to", "other"):
            found.append(("zero", name, 0))
        elif name in homes or name == "k":
            found.append(("zero", name, -1))
    found.extend([(row, homes[row], 0) for row in homes if row in names])
    return [*found, place_bound(world)] if "k" in names else found


def place_bound(world):
    """How great the place k may be."""
    return ("k", "home", 0) if world == "within" else ("k", "to", 1)


def scene_caller(handler, world, field):
    """The caller of a handler in the scenes of a field."""
    cast = Cast(handler.op, world)
    if handler.op == "swap":
        return Caller("a", handler, cast.row_of, None, None)
    to = cast.list_of["to"] if has_list(handler.op) else None
    return Caller("a", handler, {"x": "x"}, to, (field.ranks["k"], 0) if "k" in field.ranks else None)


def has_list(op):
    """Whether an operation has the argument to."""
    return op in ("put", "add", "move", "send")


def played(handler, world, field, watched, branches):
    """The branches behind the call of a handler, with the places of the rows that are watched."""
    return play(scene_caller(handler, world, field).events(), field, watched, branches)
