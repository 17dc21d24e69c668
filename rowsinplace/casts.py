"""Casts: which lists and rows the words of an operation mean in a world."""
from rowsinplace.plain import NEW


class Cast:
    """The lists and rows of the scenes of an operation and a world."""

    def __init__(self, op, world):
        apart = op in NEW or world == "apart"
        self.lists = tuple([lst for lst in ("home", "to", "other") if _is_there(lst, op, apart)])
        # What the words home and to, and x and y, mean.
        self.list_of = {"home": "home", "to": "to" if apart else "home"}
        self.row_of = {"x": "x", "y": "x" if world == "itself" else "y"}
        # The lists of the rows x and y, where they are there before the call.
        self.homes = {}
        if op not in NEW:
            self.homes["x"] = "home"
        if op == "swap" and world != "itself":
            self.homes["y"] = self.list_of["to"]
        # The rows that are named, where they are there before the call or behind it.
        self.named = ["x", "y"] if "y" in self.homes else ["x"]
        self.is_within = world in ("within", "itself")


def _is_there(lst, op, apart):
    if lst == "home":
        return op not in NEW
    return lst == "other" or apart
