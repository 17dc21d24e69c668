"""Slides: maps of the integers that move each one by the constant of the piece it lies in."""
from rowsinplace.checks import is_integer
from rowsinplace.errors import BadSlide, NoInverse


class Slide:
    """A slide made of pieces (low, high, by); two slides are equal if they move alike."""

    def __init__(self, *pieces):
        bad = _first_bad(pieces)
        if bad is not None:
            raise BadSlide(bad)
        self.pieces = _normal(pieces)

    def __call__(self, p):
        """Where the integer p moves to."""
        for low, high, by in self.pieces:
            if _holds(low, high, p):
                return p + by
        return p

    def __rshift__(self, other):
        """The slide that does this one first, and then the other one."""
        if not isinstance(other, Slide):
            return NotImplemented
        pieces = _composed(self.pieces, other.pieces)
        return Slide(*pieces)

    def __add__(self, other):
        """The slide that does this one first, and then moves everything by an integer."""
        if not is_integer(other):
            return NotImplemented
        return self >> Slide((None, None, other))

    def __radd__(self, other):
        """The slide that moves everything by an integer first, and then does this one."""
        if not is_integer(other):
            return NotImplemented
        return Slide((None, None, other)) >> self

    def __eq__(self, other):
        return isinstance(other, Slide) and self.pieces == other.pieces

    def __abs__(self):
        """The greatest distance that an integer moves."""
        return max([abs(piece[2]) for piece in self.pieces], default=0)

    def __len__(self):
        return len(self.pieces)

    def __bool__(self):
        return bool(self.pieces)

    def __contains__(self, x):
        """Whether an object is an integer that moves."""
        return is_integer(x) and any([_holds(low, high, x) for low, high, by in self.pieces])

    def __iter__(self):
        return iter(self.pieces)

    def first_fault(self, count):
        """What keeps 1 to count from being sent onto 1 to count, or None."""
        runs = _runs_within(self.pieces, count)
        return _first_low(runs) or _first_high(runs, count) or _first_double(runs)

    def inverse(self):
        """The slide that undoes this one."""
        images = [(_moved(low, by), _moved(high, by), -by) for low, high, by in _runs(self.pieces)]
        images = sorted(images, key=_start)
        if not _are_joined(images):
            raise NoInverse(self)
        return Slide(*images)


def _is_piece(thing):
    """Whether an object is a tuple (low, high, by) as a slide is made of."""
    if not isinstance(thing, tuple) or len(thing) != 3:
        return False
    low, high, by = thing
    if not is_integer(by) or not _is_end(low) or not _is_end(high):
        return False
    return low is None or high is None or low <= high


def _is_end(thing):
    return thing is None or is_integer(thing)


def _is_ahead(piece, other):
    """Whether all integers of a piece are below those of another one."""
    return piece[1] is not None and other[0] is not None and piece[1] < other[0]


def _meet(piece, other):
    return not _is_ahead(piece, other) and not _is_ahead(other, piece)


def _first_bad(things):
    """The index of the first object that is no piece or meets an earlier one, or None."""
    last = None
    for index, thing in enumerate(things):
        if not _is_piece(thing):
            return index
        # Only what does not lie behind all earlier pieces is held against each of them: so
        # ascending pieces, as many as a composition has, take no time.
        if last is None or _is_ahead(last, thing):
            last = thing
        elif any([_meet(thing, earlier) for earlier in things[:index]]):
            return index
    return None


def _start(piece):
    """The low end of a piece as a key to sort by: no end is ahead of all integers."""
    return (0, 0) if piece[0] is None else (1, piece[0])


def _normal(pieces):
    """The normal form of pieces that have no integer in common."""
    found = []
    for low, high, by in sorted([piece for piece in pieces if piece[2] != 0], key=_start):
        # A piece that another one follows has a high end.
        if found and found[-1][2] == by and found[-1][1] + 1 == low:
            found[-1] = (found[-1][0], high, by)
        else:
            found.append((low, high, by))
    return tuple(found)


def _holds(low, high, p):
    return (low is None or low <= p) and (high is None or p <= high)


def _moved(end, by):
    return None if end is None else end + by


def _runs(pieces):
    """Pieces that hold all integers, ascending: those of a normal form, and the rest with by 0."""
    found = []
    low = None
    for piece in pieces:
        start, end, _ = piece
        if start is not None and start != low:
            found.append((low, start - 1, 0))
        found.append(piece)
        if end is None:
            return found
        low = end + 1
    found.append((low, None, 0))
    return found


def _common(low, high, start, end):
    """The ends (low, high) of what two ranges have in common, or None if it is nothing."""
    if low is None or (start is not None and start > low):
        low = start
    if high is None or (end is not None and end < high):
        high = end
    if low is not None and high is not None and low > high:
        return None
    return (low, high)


def _composed(first, second):
    """Pieces, ascending, that move as the pieces first do, and then as the pieces second do."""
    found = []
    then = _runs(second)
    for low, high, by in _runs(first):
        for start, end, more in then:
            part = _common(_moved(low, by), _moved(high, by), start, end)
            if part is not None:
                found.append((_moved(part[0], -by), _moved(part[1], -by), by + more))
    return found


def _are_joined(pieces):
    """Whether each piece ends just ahead of the next one, so that all integers lie in one of them."""
    pairs = list(zip(pieces, pieces[1:]))
    return all([piece[1] is not None and piece[1] + 1 == other[0] for piece, other in pairs])


def _runs_within(pieces, count):
    """Pieces that hold the integers 1 to count, ascending."""
    found = []
    for low, high, by in _runs(pieces):
        part = _common(low, high, 1, count)
        if part is not None:
            found.append((part[0], part[1], by))
    return found


def _first_low(runs):
    for low, high, by in runs:
        if low + by < 1:
            return ("low", low)
    return None


def _first_high(runs, count):
    for low, high, by in runs:
        if high + by > count:
            return ("high", max(low, count - by + 1))
    return None


def _first_double(runs):
    """The least q of the runs that comes to where a lesser p comes to, with this p."""
    for index, run in enumerate(runs):
        found = [_double(earlier, run) for earlier in runs[:index] if _have_common_image(earlier, run)]
        if found:
            q, p = min(found)
            return ("double", p, q)
    return None


def _have_common_image(run, other):
    return run[0] + run[2] <= other[1] + other[2] and other[0] + other[2] <= run[1] + run[2]


def _double(run, other):
    """The least q of the other run that comes to where a p of the run comes to: (q, p)."""
    image = max(run[0] + run[2], other[0] + other[2])
    return (image - other[2], image - run[2])
