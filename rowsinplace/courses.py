"""Courses: what the call of a handler does in a scene, without its rows being counted through."""
from rowsinplace.casts import Cast
from rowsinplace.steps import Drop, Write, is_so


class Course:
    """The call of a handler in a scene: its shifts, and where rows x and y come to.

    The shifts are tuples (list, low, high, by): the rows of the list, None for all lists, whose
    places are from low to high, both included, None for no end.
    """

    def __init__(self, handler, scene):
        numbers = scene.as_dict()
        self._cast = Cast(scene.op, scene.world)
        self._starts = {row: (lst, numbers[row]) for row, lst in self._cast.homes.items()}
        self._spots = dict(self._starts)
        self._counts = {lst: numbers[lst] for lst in self._cast.lists}
        self._settled = _settled(self._cast, numbers)
        self.shifts = []
        for step in handler.steps:
            if self._is_open(step.guard):
                self._carry_out(step)

    def end(self, spot):
        """The list and the place of the row of a spot behind the call, or None."""
        if spot[0] == "new":
            return self._spots.get("x")
        for row, start in self._starts.items():
            if start == spot:
                return self._spots.get(row)
        lst, place = spot
        for target, low, high, by in self.shifts:
            if (target is None or target == lst) and _lies(place, low, high):
                place = place + by
        return (lst, place)

    def _carry_out(self, step):
        if isinstance(step, Write):
            base, offset = step.term
            self._bring(self._cast.row_of[step.row], (self._cast.list_of[step.target], self._worth(base, offset)))
        elif isinstance(step, Drop):
            self._bring("x", None)
        else:
            self._slide(step)

    def _bring(self, row, spot):
        """Brings a row to a spot, or off the board for None."""
        before = self._spots.pop(row, None)
        if before is not None:
            self._counts[before[0]] = self._counts[before[0]] - 1
        if spot is not None:
            self._spots[row] = spot
            self._counts[spot[0]] = self._counts[spot[0]] + 1

    def _slide(self, step):
        target = None if step.target == "all" else self._cast.list_of[step.target]
        low, high = self._range(step.conditions)
        spared = [self._cast.row_of[row] for row in step.spared]
        for row in list(self._spots):
            lst, place = self._spots[row]
            if row not in spared and (target is None or target == lst) and _lies(place, low, high):
                self._spots[row] = (lst, place + step.by)
        if low is None or high is None or low <= high:
            self.shifts.append((target, low, high, step.by))

    def _range(self, conditions):
        """The least and the greatest place that satisfies all conditions, None for no end."""
        low = high = None
        for sign, base, offset in conditions:
            worth = self._worth(base, offset)
            if sign in (">", ">=", "="):
                least = worth + 1 if sign == ">" else worth
                low = least if low is None else max(low, least)
            if sign in ("<", "<=", "="):
                most = worth - 1 if sign == "<" else worth
                high = most if high is None else min(high, most)
        return (low, high)

    def _is_open(self, guard):
        """Whether a guard holds."""
        if guard is None:
            return True
        if len(guard) == 1:
            return self._cast.is_within == (guard == ("within",))
        left, less, sign, right, more = guard
        return is_so(self._worth(left, less), sign, self._worth(right, more))

    def _worth(self, base, offset):
        """The integer that a term stands for now."""
        if base in self._settled:
            return self._settled[base] + offset
        if base in self._cast.row_of:
            return self._spots[self._cast.row_of[base]][1] + offset
        return self._counts[self._cast.list_of[base.removeprefix("count ")]] + offset


def _settled(cast, numbers):
    """What the bases are worth that stay as they are when the call begins.

    The lists are dense, so the last place is the number of rows.
    """
    found = {"0": 0, "k": numbers["k"]}
    for word, row in cast.row_of.items():
        found[f"old {word}"] = numbers[row]
    for word, lst in cast.list_of.items():
        found[f"old count {word}"] = numbers[lst]
        found[f"old last {word}"] = numbers[lst]
    return found


def _lies(place, low, high):
    return (low is None or low <= place) and (high is None or place <= high)
