"""Scenes and what becomes of their rows, straight from the document's words, for small lists."""
import reference

WORLDS = ("alone", "apart", "within", "itself")
OF = {
    "put": ("alone",), "add": ("alone",), "take": ("alone",), "top": ("alone",), "bottom": ("alone",), "up": ("alone",),
    "down": ("alone",), "move": ("apart", "within"), "send": ("apart", "within"), "swap": ("apart", "within", "itself"),
}
NEW = ("put", "add")


def fits(op, world, home, to, x, y, k):
    """Whether numbers from 0 on make a scene of an operation and a world."""
    if op in NEW:
        right = home == 0 and x == 0
    else:
        right = home >= (2 if (op, world) == ("swap", "within") else 1) and 1 <= x <= home
    if world == "apart":
        right = right and to >= (1 if op == "swap" else 0)
    elif op not in NEW:
        right = right and to == 0
    if (op, world) == ("swap", "apart"):
        right = right and 1 <= y <= to
    elif (op, world) == ("swap", "within"):
        right = right and 1 <= y <= home and y != x
    else:
        right = right and y == 0
    if op == "put" or (op, world) == ("move", "apart"):
        return right and 1 <= k <= to + 1
    if (op, world) == ("move", "within"):
        return right and 1 <= k <= home
    return right and k == 0


def keys(op, total):
    """The keys of all scenes of an operation with a total."""
    whole = range(total + 1)
    return sorted(
        (total, WORLDS.index(world), home, to, x, y, k)
        for world in OF[op] for home in whole for to in range(total - home + 1)
        for x in range(home + 1) for y in range(max(home, to) + 1) for k in range(max(home, to) + 2)
        if fits(op, world, home, to, x, y, k))


def numbers_of(key):
    total, world, home, to, x, y, k = key
    return {"home": home, "to": to, "other": total - home - to, "x": x, "y": y, "k": k}


def kind_of(op, key, spot):
    """The kind of the row of a spot."""
    world, numbers = WORLDS[key[1]], numbers_of(key)
    if spot[0] == "new" or (op not in NEW and spot == ("home", numbers["x"])):
        return "x"
    if op == "swap" and spot == ("to" if world == "apart" else "home", numbers["y"]):
        return "y"
    return spot[0]


def spots(op, key):
    numbers = numbers_of(key)
    found = [("new", 0)] if op in NEW else []
    return found + [(lst, place) for lst in ("home", "to", "other") for place in range(1, numbers[lst] + 1)]


def name(op, key, spot):
    letters = "abcdefghijklmnopqrstuvwxyz"
    kind = kind_of(op, key, spot)
    if kind in ("x", "y"):
        return kind
    return spot[0][0] + letters[(spot[1] - 1) // 26] + letters[(spot[1] - 1) % 26]


def arguments(op, key):
    world, numbers = WORLDS[key[1]], numbers_of(key)
    if op == "swap":
        return {"x": "x", "y": "x" if world == "itself" else "y"}
    found = {"x": "x"}
    if op in ("put", "add", "move", "send"):
        found["to"] = "home" if world == "within" else "to"
    if op in ("put", "move"):
        found["k"] = numbers["k"]
    return found


def rows(op, key):
    return {name(op, key, spot): spot for spot in spots(op, key) if spot[0] != "new"}


def fates(op, key, lines):
    """The fates of all spots behind a call of a handler, given by its lines."""
    behind = reference.call(lines, rows(op, key), arguments(op, key))
    return {spot: behind.get(name(op, key, spot)) for spot in spots(op, key)}


def first_difference(op, key, lines, others):
    ends, dues = fates(op, key, lines), fates(op, key, others)
    for spot in spots(op, key):
        if ends[spot] != dues[spot]:
            return (spot, ends[spot], dues[spot])
    return None


def first_gap(op, key, lines):
    ends = [(spot, end) for spot, end in fates(op, key, lines).items() if end is not None]
    counts = {}
    for spot, (lst, place) in ends:
        counts[lst] = counts.get(lst, 0) + 1
    lows = [("low", spot) for spot, (lst, place) in ends if place < 1]
    highs = [("high", spot) for spot, (lst, place) in ends if place > counts[lst]]
    doubles = [("double", spot, other) for at, (spot, end) in enumerate(ends) for other, also in ends[at + 1:] if end == also]
    return (lows + highs + doubles + [None])[0]
