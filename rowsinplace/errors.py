"""The errors of the package: each keeps what it was made with, as attributes."""


class PlaceError(ValueError):
    """Something that was passed does not fit."""


class MissingError(LookupError):
    """Something that was asked for is not there."""


class NoRow(MissingError):
    """A row is not on the board."""

    def __init__(self, row):
        self.row = row


class NoPlace(MissingError):
    """No row of the list stands at the place."""

    def __init__(self, lst, place):
        self.lst = lst
        self.place = place


class NoHandler(MissingError):
    """A desk has no handler of that name."""

    def __init__(self, name):
        self.name = name


class BadName(PlaceError):
    """An object is no name."""

    def __init__(self, name):
        self.name = name


class BadPlace(PlaceError):
    """An object is no place."""

    def __init__(self, place):
        self.place = place


class BadSlide(PlaceError):
    """The object with that index is no piece, or meets an earlier piece."""

    def __init__(self, index):
        self.index = index


class NoInverse(PlaceError):
    """A slide does not send the integers onto the integers, no two to one."""

    def __init__(self, slide):
        self.slide = slide


class Twice(PlaceError):
    """A row stands twice on a plain board."""

    def __init__(self, row):
        self.row = row


class BadOperation(PlaceError):
    """An object is none of the operations."""

    def __init__(self, op):
        self.op = op


class BadCall(PlaceError):
    """An argument of a call does not fit."""

    def __init__(self, argument):
        self.argument = argument


class BadVisit(PlaceError):
    """An object is no visit."""

    def __init__(self, visit):
        self.visit = visit


class BadLine(PlaceError):
    """An object is no line of a handler."""

    def __init__(self, line):
        self.line = line


class BadStep(PlaceError):
    """The line with that index is not right for the operation."""

    def __init__(self, index):
        self.index = index


class BadText(PlaceError):
    """The line with that index keeps a text from being that of a handler."""

    def __init__(self, index):
        self.index = index


class BadWorld(PlaceError):
    """An object is no world of the operation."""

    def __init__(self, world):
        self.world = world


class BadNumber(PlaceError):
    """The number of that name does not fit in the scene."""

    def __init__(self, name):
        self.name = name


class BadSpot(PlaceError):
    """An object is no spot of the scene."""

    def __init__(self, spot):
        self.spot = spot


class BadBound(PlaceError):
    """The object with that index is no bound."""

    def __init__(self, index):
        self.index = index


class BadKind(PlaceError):
    """An object is no kind of rows of the operation and the world."""

    def __init__(self, kind):
        self.kind = kind


class OtherOperation(PlaceError):
    """Something belongs to another operation."""

    def __init__(self, op):
        self.op = op


class BadOrder(PlaceError):
    """An object is no order of the two calls."""

    def __init__(self, order):
        self.order = order


class BadPair(PlaceError):
    """Two operations cannot be asked about together."""

    def __init__(self, first, second):
        self.first = first
        self.second = second


class BadRule(PlaceError):
    """An object is no rule."""

    def __init__(self, rule):
        self.rule = rule


class BadMend(PlaceError):
    """An object is no mend of the handler."""

    def __init__(self, mend):
        self.mend = mend


class TooMany(PlaceError):
    """There are more than the limit allows."""

    def __init__(self, limit):
        self.limit = limit


class Clash(PlaceError):
    """A changed row comes to the place of another row."""

    def __init__(self, step, row, other):
        self.step = step
        self.row = row
        self.other = other


class CallFailed(PlaceError):
    """A call of several cannot be carried out."""

    def __init__(self, index, reason):
        self.index = index
        self.reason = reason
