"""Stages: the rows of a scene, for calls that are carried out on them one after another.

The rows have keys that sort as their names on the board of the scene do.
"""
from rowsinplace.calls import Call
from rowsinplace.casts import Cast
from rowsinplace.plain import arguments_of

# Their names come behind those of all other rows.
KEYS = {"x": (1, "x", 0), "y": (1, "y", 0)}


class Stage:
    """The rows of a scene before a call: where they stand by their keys, and their keys by their spots."""

    def __init__(self, scene):
        self.op = scene.op
        self.cast = Cast(scene.op, scene.world)
        self.k = scene.k
        numbers = scene.as_dict()
        named = {(lst, numbers[row]): KEYS[row] for row, lst in self.cast.homes.items()}
        self.key_of = {}
        for spot in scene.spots():
            self.key_of[spot] = KEYS["x"] if spot[0] == "new" else named.get(spot, (0, *spot))
        self.places = {key: spot for spot, key in self.key_of.items() if spot[0] != "new"}

    def copied(self):
        """A new dict from the keys of the rows to where they stand before the call."""
        return {key: self.places[key] for key in self.places}

    def call(self, spots):
        """The call of the scene, as it begins with the rows at some spots."""
        arguments = arguments_of(self.op)
        y = KEYS[self.cast.row_of["y"]] if "y" in arguments else None
        to = self.cast.list_of["to"] if "to" in arguments else None
        return Call(spots, KEYS["x"], y, to, self.k if "k" in arguments else None)

    def spot_of(self, key):
        """The spot of a row before the call."""
        return self.places.get(key, ("new", 0))
