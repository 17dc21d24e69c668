"""Weaves: two calls whose steps are carried out in turns, and whether they leave a list dense."""
from rowsinplace.calls import Call
from rowsinplace.errors import BadOrder, BadPair, TooMany
from rowsinplace.fields import SOME, has_list, has_place
from rowsinplace.gaps import first_gap, gap_parts, looked_at
from rowsinplace.handlers import bring, has_last
from rowsinplace.plain import NEW, check_call
from rowsinplace.runs import Caller, Field, play
from rowsinplace.steps import Drop
from rowsinplace.tables import check_comparisons

MOST_COMPARISONS = 4
MOST_SAFE = 3
MOST_STEPS = 2

# Faults nearly always show in lists with so few rows, and these are quickly looked through.
FEW = 3

WORDS = ("x", "y", "to", "k")


class Woven:
    """The answer to a question about two woven calls: it holds, or there are numbers with a fault."""

    def __init__(self, numbers, fault):
        self.numbers = numbers
        self.fault = fault

    @property
    def holds(self):
        """Whether there is no fault."""
        return self.numbers is None

    def __bool__(self):
        return self.numbers is None


def orders(first, second):
    """All orders of two calls, ascending."""
    order = "a" * (len(first.steps) + 1) + "b" * (len(second.steps) + 1)
    while order is not None:
        yield order
        order = _following(order)


def woven(board, order, first, arguments, second, other_arguments):
    """Carries out two calls on a board in an order."""
    before = {row: board.at(row) for row in board}
    homes = {row: before[row][0] for row in before}
    calls = {"a": [arguments.get(word) for word in WORDS], "b": [other_arguments.get(word) for word in WORDS]}
    handlers = {"a": first, "b": second}
    for letter in ("a", "b"):
        x, y, to, k = calls[letter]
        check_call(handlers[letter].op, homes, x, y, to, k)
    others = [row for row in calls["b"][:2] if row is not None]
    if not _can_share(first, second) and any([row in others for row in calls["a"][:2]]):
        raise BadPair(first.op, second.op)
    _check_order(first, second, order)
    after = dict(before)
    _carry_out(order, handlers, calls, after)
    bring(board, before, after)


def weave(first, second, order, *, same=False):
    """Whether two calls that name one list leave it dense in an order."""
    _check_pair(first, second, same)
    check_comparisons(first.comparisons + second.comparisons, MOST_COMPARISONS)
    _check_order(first, second, order)
    return _decided(first, second, order, same)


def safe_orders(first, second, *, same=False):
    """The orders in which two calls that name one list leave it dense."""
    _check_pair(first, second, same)
    check_comparisons(first.comparisons + second.comparisons, MOST_SAFE)
    if len(first.steps) > MOST_STEPS or len(second.steps) > MOST_STEPS:
        raise TooMany(MOST_STEPS)
    return [order for order in orders(first, second) if _decided(first, second, order, same).holds]


def _following(order):
    """The order behind an order, or None behind the last one."""
    at = order.rfind("ab")
    if at < 0:
        return None
    rest = order[at + 2:]
    return order[:at] + "b" + "a" * (rest.count("a") + 1) + "b" * rest.count("b")


def _can_share(first, second):
    """Whether calls of two handlers can be woven if they have a row in common."""
    drops = [step for handler in (first, second) for step in handler.steps if isinstance(step, Drop)]
    return not drops and all([handler.op not in (*NEW, "take") for handler in (first, second)])


def _check_pair(first, second, same):
    """Raises BadPair if it cannot be asked how two calls leave one list."""
    handlers = (first, second)
    if any([handler.op == "swap" or has_last(handler) for handler in handlers]):
        raise BadPair(first.op, second.op)
    if same and not _can_share(first, second):
        raise BadPair(first.op, second.op)


def _check_order(first, second, thing):
    """Raises BadOrder if an object is no order of two calls."""
    events = (len(first.steps) + 1, len(second.steps) + 1)
    if not isinstance(thing, str) or len(thing) != sum(events) or (thing.count("a"), thing.count("b")) != events:
        raise BadOrder(thing)


def _carry_out(order, handlers, calls, spots):
    """Carries out two calls, given by their arguments, on rows at some spots, which change."""
    begun = {}
    steps = {letter: list(handlers[letter].steps) for letter in handlers}
    for letter in order:
        if letter not in begun:
            x, y, to, k = calls[letter]
            begun[letter] = Call(spots, x, y, to, k)
        else:
            begun[letter].carry_out(spots, 0, steps[letter].pop(0), None)


def _decided(first, second, order, same):
    """The answer whether two calls leave one list dense in an order."""
    weaving = Weaving(first, second, same)
    for count in range(FEW + 1):
        for numbers in weaving.ways(count):
            fault = weaving.fault_in(numbers, order)
            if fault is not None:
                return Woven(_told(numbers), fault)
    found = weaving.parts(order)
    if not found:
        return Woven(None, None)
    return Woven(_told(min(found)), weaving.fault_in(min(found), order))


def _told(numbers):
    return {name: worth for name, worth in zip(("count", "x", "k", "u", "l"), numbers)}


class Weaving:
    """Two handlers whose calls name one list, with one row or two; numbers are (count, x, k, u, l)."""

    def __init__(self, first, second, same):
        self._handlers = {"a": first, "b": second}
        self._same = same
        # The names of the rows, and of the numbers of the places k.
        self._rows = {"a": "x", "b": "x" if same else "u"}
        self._places = {"a": "k", "b": "l"}

    def ways(self, count):
        """All numbers with a count of rows, ascending."""
        rows = {letter: list(range(1, count + 1)) if self._is_there(letter) else [0] for letter in ("a", "b")}
        return [
            (count, x, k, u, l)
            for x in rows["a"] for k in self._range("a", count)
            for u in ([x] if self._same else rows["b"]) if self._same or u == 0 or u != x
            for l in self._range("b", count)
        ]

    def fault_in(self, numbers, order):
        """What keeps the list from being dense behind the two calls, or None."""
        count, x, k, u, l = numbers
        spots = {("list", place): ("list", place) for place in range(1, count + 1)}
        rows = [("list", x) if self._is_there("a") else ("new", 0), ("list", u) if self._is_there("b") else ("new", 1)]
        calls = {}
        for letter, row, place in zip(("a", "b"), rows, (k, l)):
            op = self._handlers[letter].op
            calls[letter] = (row, None, "list" if has_list(op) else None, place if has_place(op) else None)
        before = [("new", 0), ("new", 1), *spots]
        _carry_out(order, self._handlers, calls, spots)
        return first_gap([(row, spots[row]) for row in before if row in spots])

    def parts(self, order):
        """The least numbers of all parts of the boards and calls in which the list is not dense behind them."""
        found = []
        named = ["x"] if self._same else ["x", "u"]
        for rows, kinds in looked_at(named, ["list"]):
            field = self._field_with(kinds)
            events = self._events(field, order)
            for branch in play(events, field, rows, field.starts()):
                found.extend([self._numbers(field, part) for part in gap_parts(branch, rows, field)])
        return found

    def _is_there(self, letter):
        """Whether the row of a call is there before it."""
        return self._handlers[letter].op not in NEW

    def _range(self, letter, count):
        """All places k of a call."""
        op = self._handlers[letter].op
        if not has_place(op):
            return [0]
        return list(range(1, count + 2 if op == "put" else count + 1))

    def _field_with(self, kinds):
        """The field of the two calls, with rows of up to two kinds besides theirs."""
        letters = ("a",) if self._same else ("a", "b")
        rows = [*[self._rows[letter] for letter in letters if self._is_there(letter)], *SOME[:len(kinds)]]
        places = {self._places[letter]: self._handlers[letter].op for letter in ("a", "b")}
        places = {name: op for name, op in places.items() if has_place(op)}
        bounds = [("zero", "list", 0), *[("zero", name, -1) for name in (*rows, *places)]]
        bounds.extend([(row, "list", 0) for row in rows])
        bounds.extend([(name, "list", 1 if op == "put" else 0) for name, op in places.items()])
        return Field(["list", *places, *rows], {row: "list" for row in rows}, bounds, {})

    def _events(self, field, order):
        """What is run, in an order."""
        waiting = {}
        for letter, handler in self._handlers.items():
            k = (field.ranks[self._places[letter]], 0) if has_place(handler.op) else None
            to = "list" if has_list(handler.op) else None
            waiting[letter] = Caller(letter, handler, {"x": self._rows[letter]}, to, k).events()
        found = []
        for letter in order:
            found.append(waiting[letter].pop(0))
        return found

    def _numbers(self, field, part):
        """The least numbers of a part."""
        known = field.told(part)
        found = [known.get(name, 0) for name in ("list", "x", "k", self._rows["b"], "l")]
        return tuple(found)
