"""Bounds: how far numbers may lie from each other, and whether such bounds can all hold."""
from rowsinplace.checks import is_integer, is_name
from rowsinplace.errors import BadBound

ZERO = "zero"


class Bounds:
    """A system of bounds (u, v, c): the number u is at most the number v plus c."""

    def __init__(self, *bounds):
        for index, bound in enumerate(bounds):
            if not is_bound(bound):
                raise BadBound(index)
        self._bounds = bounds

    def least(self):
        """The least value that each name has in a solution, or None if there is no solution."""
        values, ring = _solved(self._bounds)
        if ring is not None:
            return None
        return {name: values[name] for name in values if name != ZERO}

    def ring(self):
        """A ring of bounds of the system, or None if there is a solution."""
        return _solved(self._bounds)[1]

    def __contains__(self, x):
        """Whether an object is a bound that holds in all solutions."""
        return is_bound(x) and _solved([*self._bounds, opposite(x)])[1] is not None

    def __add__(self, other):
        """The system with a bound more."""
        bounds = [*self._bounds, other]
        return Bounds(*bounds)

    def __len__(self):
        return len(self._bounds)


def opposite(bound):
    """The bound that holds exactly if this one does not."""
    u, v, c = bound
    return (v, u, -c - 1)


def is_bound(thing):
    """Whether an object is a bound."""
    if not isinstance(thing, tuple) or len(thing) != 3:
        return False
    u, v, c = thing
    return is_name(u) and is_name(v) and u != v and is_integer(c)


def is_ring(thing):
    """Whether an object is a list or tuple of bounds that form a ring."""
    if not isinstance(thing, (list, tuple)) or not all([is_bound(bound) for bound in thing]):
        return False
    # The first bound follows the last one: index -1.
    joined = [thing[index - 1][1] == bound[0] for index, bound in enumerate(thing)]
    return all(joined) and sum([bound[2] for bound in thing]) < 0


def _solved(bounds):
    """The least values of the names and None, or what values there were and a ring.

    From 0 on, each name is raised to what the bounds ask for. A name that is raised once more,
    when each name has had its turn, or zero itself, has a ring of bounds behind it.
    """
    values = {name: 0 for name in [ZERO, *[end for bound in bounds for end in bound[:2]]]}
    causes = {name: (ZERO, name, 0) for name in values if name != ZERO}
    for _ in range(len(values) + 1):
        raised = None
        for u, v, c in bounds:
            if values[u] - c > values[v]:
                values[v] = values[u] - c
                causes[v] = (u, v, c)
                raised = v
                if v == ZERO:
                    return (values, _ring(causes, v))
        if raised is None:
            return (values, None)
    return (values, _ring(causes, raised))


def _ring(causes, name):
    """The ring that one comes to from a name, going from each bound to what caused it."""
    # As many steps as there are names lead into the ring, wherever the name is.
    for _ in range(len(causes) + 1):
        name = causes[name][0]
    found = [causes[name]]
    while found[-1][0] != name:
        found.append(causes[found[-1][0]])
    return found[::-1]
