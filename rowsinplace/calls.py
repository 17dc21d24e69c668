"""Calls: the steps of a handler, carried out on rows that stand anywhere."""
from rowsinplace.errors import Clash
from rowsinplace.steps import Drop, Write, is_so


class Call:
    """A call as it begins: what its words mean from then on.

    The rows stand in a dict from their names to tuples (list, place), which the steps change.
    """

    def __init__(self, spots, x, y, to, k):
        self._rows = {"x": x, "y": y}
        self._lists = {"to": to if y is None else spots[y][0]}
        if x in spots:
            self._lists["home"] = spots[x][0]
        self._settled = _settled(spots, self._rows, self._lists)
        self._settled["k"] = k

    def carry_out(self, spots, index, step, visit):
        """Carries out the step with that index; with a visit, each changed row is looked at."""
        changed = self.changes(spots, step)
        if visit == "down":
            changed = changed[::-1]
        for row, spot in changed:
            if spot is None:
                del spots[row]
            else:
                spots[row] = spot
                _look(spots, row, index, visit)

    def changes(self, spots, step):
        """The rows that a step changes, in the order of "up", each with its spot then; None off the board."""
        if not self._allows(spots, step.guard):
            return []
        if isinstance(step, Write):
            return [(self._rows[step.row], (self._lists[step.target], self._worth_of(spots, step.term)))]
        if isinstance(step, Drop):
            return [(self._rows[step.row], None)]
        return [(row, (spots[row][0], spots[row][1] + step.by)) for row in self._shifted(spots, step)]

    def _shifted(self, spots, step):
        """The rows that a shift moves, by lists, places and names."""
        spared = [self._rows[word] for word in step.spared]
        limits = [(sign, self._worth_of(spots, (base, offset))) for sign, base, offset in step.conditions]
        found = []
        for row in spots:
            lst, place = spots[row]
            meant = step.target == "all" or lst == self._lists[step.target]
            if meant and row not in spared and all([is_so(place, sign, limit) for sign, limit in limits]):
                found.append((lst, place, row))
        return [row for lst, place, row in sorted(found)]

    def _allows(self, spots, guard):
        """Whether a guard holds."""
        if guard is None:
            return True
        if len(guard) == 1:
            return (self._lists["home"] == self._lists["to"]) == (guard == ("within",))
        left, less, sign, right, more = guard
        return is_so(self._worth_of(spots, (left, less)), sign, self._worth_of(spots, (right, more)))

    def _worth_of(self, spots, term):
        """The integer that a term stands for now."""
        base, offset = term
        if base in self._settled:
            return self._settled[base] + offset
        if base in self._rows:
            return spots[self._rows[base]][1] + offset
        lst = self._lists[base.removeprefix("count ")]
        return len(_places(spots, lst)) + offset


def _places(spots, lst):
    return [place for home, place in spots.values() if home == lst]


def _settled(spots, rows, lists):
    """What the bases are worth that stay as they are when the call begins."""
    found = {"0": 0}
    for word, row in rows.items():
        if row in spots:
            found[f"old {word}"] = spots[row][1]
    for word, lst in lists.items():
        places = _places(spots, lst)
        found[f"old count {word}"] = len(places)
        found[f"old last {word}"] = max(places, default=0)
    return found


def _look(spots, row, index, visit):
    """Raises Clash if there is a visit, and another row stands where a changed row stands now."""
    if visit is None:
        return
    others = sorted([other for other in spots if other != row and spots[other] == spots[row]])
    if others:
        raise Clash(index, row, others[0])
