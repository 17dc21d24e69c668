"""Boards: rows that stand in lists at places, and the columns of their lists."""
from rowsinplace.checks import is_integer, is_name
from rowsinplace.errors import BadName, BadPlace, NoPlace, NoRow, Twice


class Board:
    """Rows by their names, each in a list and at a place."""

    def __init__(self):
        # From rows to tuples (list, place). A change puts a new dict here, so that who
        # iterates over the board meanwhile goes on over the rows that it had.
        self._spots = {}

    @classmethod
    def of(cls, lists):
        """The dense board of a plain board."""
        board = cls()
        for lst in sorted(lists):
            for place, row in enumerate(lists[lst], start=1):
                if not is_name(row):
                    raise BadName(row)
                if row in board:
                    raise Twice(row)
                board[lst, place] = row
        return board

    def __setitem__(self, at, worth):
        lst, place = at
        if not is_name(lst):
            raise BadName(lst)
        if not is_integer(place):
            raise BadPlace(place)
        if not is_name(worth):
            raise BadName(worth)
        self._spots = {**self._spots, worth: (lst, place)}

    def __getitem__(self, at):
        lst, place = at
        if is_integer(place):
            for standing, row in self._pairs(lst):
                if standing == place:
                    return row
        raise NoPlace(lst, place)

    def __contains__(self, x):
        return isinstance(x, str) and x in self._spots

    def __len__(self):
        return len(self._spots)

    def __iter__(self):
        return iter(self._spots)

    def at(self, row):
        """The list and the place of a row."""
        if row not in self:
            raise NoRow(row)
        return self._spots[row]

    def drop(self, row):
        """Takes a row off the board."""
        if row not in self:
            raise NoRow(row)
        self._spots = {other: spot for other, spot in self._spots.items() if other != row}

    def rows_of(self, lst):
        """The rows of a list in its order."""
        return [row for place, row in self._pairs(lst)]

    def places_of(self, lst):
        """The places of the rows of a list, ascending."""
        return [place for place, row in self._pairs(lst)]

    def list_names(self):
        """The names of the lists that have rows, ascending."""
        return sorted({spot[0] for spot in self._spots.values()})

    def copy(self):
        """Another board with the same rows."""
        board = Board()
        board._spots = dict(self._spots)
        return board

    def first_fault(self):
        """What keeps the board from being dense, or None."""
        for lst in self.list_names():
            fault = _fault_of(lst, self._pairs(lst))
            if fault is not None:
                return fault
        return None

    @property
    def is_dense(self):
        """Whether the places of each list are 1 to the number of its rows."""
        return self.first_fault() is None

    @property
    def is_unlike(self):
        """Whether no two rows of one list have the same place, and no place is below 1."""
        spots = list(self._spots.values())
        return len(set(spots)) == len(spots) and all([spot[1] >= 1 for spot in spots])

    def show(self):
        """The lists with their rows, as lines."""
        lines = []
        for lst in self.list_names():
            pairs = self._pairs(lst)
            lines.append(f"{lst}: {len(pairs)}")
            lines.extend([f"{place:>6} {row}" for place, row in pairs])
        return "\n".join(lines)

    def column(self, lst):
        """The column of a list."""
        return Column(self, lst)

    def _pairs(self, lst):
        """The tuples (place, row) of a list, in its order."""
        return sorted([(spot[1], row) for row, spot in self._spots.items() if spot[0] == lst])

    def _shift(self, lst, by):
        """Adds an integer to the place of each row of a list."""
        moved = {row: (lst, place + by) for place, row in self._pairs(lst)}
        self._spots = {**self._spots, **moved}


class Column:
    """The places of the rows of a list, as its board holds them now."""

    def __init__(self, board, lst):
        self._board = board
        self._lst = lst

    def __iadd__(self, other):
        if not is_integer(other):
            return NotImplemented
        self._board._shift(self._lst, other)
        return self

    def __isub__(self, other):
        if not is_integer(other):
            return NotImplemented
        self._board._shift(self._lst, -other)
        return self

    def __len__(self):
        return len(self._board.rows_of(self._lst))

    def __contains__(self, x):
        return is_integer(x) and x in self._board.places_of(self._lst)


def _fault_of(lst, pairs):
    """What keeps a list from being dense, of its tuples (place, row) in order, or None."""
    for place, row in pairs:
        if place < 1:
            return ("low", lst, row)
    for place, row in pairs:
        if place > len(pairs):
            return ("high", lst, row)
    for (place, row), (following, other) in zip(pairs, pairs[1:]):
        if place == following:
            return ("double", lst, row, other)
    return None
