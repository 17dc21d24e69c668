"""Handlers: calls written by hand as steps, and the patterns of the operations."""
from rowsinplace.calls import Call
from rowsinplace.errors import BadLine, BadStep, BadText, BadVisit, TooMany
from rowsinplace.plain import NEW, OPERATIONS, arguments_of, check_call
from rowsinplace.steps import Drop, Shift, Write, read_step, signs_of

TWO_LISTS = ("move", "send", "swap")

PATTERNS = {
    "put": ("shift to by 1 where place >= k", "write x to k"),
    "add": ("write x to count to + 1",),
    "take": ("shift home by -1 where place > x", "drop x"),
    "move": (
        "shift home by -1 where place > x",
        "shift to by 1 where place >= k except x",
        "write x to k",
    ),
    "send": (
        "shift home by -1 where place > x",
        "when within do write x to count to",
        "when apart do write x to count to + 1",
    ),
    "top": ("shift home by 1 where place < x", "write x home 1"),
    "bottom": ("shift home by -1 where place > x", "write x home count home"),
    "up": ("shift home by 1 where place = x - 1", "when old x > 1 do write x home old x - 1"),
    "down": ("shift home by -1 where place = x + 1", "when old x < count home do write x home old x + 1"),
    "swap": ("write x to old y", "write y home old x"),
}


class Handler:
    """A handler of an operation, made of the lines of its steps; equal by its text."""

    MOST = 6

    def __init__(self, op, *lines):
        arguments_of(op)
        if len(lines) > Handler.MOST:
            raise TooMany(Handler.MOST)
        self.op = op
        self.steps = _steps(op, lines)
        self.text = "\n".join([f"handler {op}", *lines])

    @classmethod
    def read(cls, text):
        """The handler that a text is."""
        if not isinstance(text, str):
            raise BadText(-1)
        head, *lines = text.split("\n")
        if head not in [f"handler {op}" for op in OPERATIONS]:
            raise BadText(0)
        return cls(head.removeprefix("handler "), *lines)

    def __eq__(self, other):
        return isinstance(other, Handler) and self.text == other.text

    @property
    def comparisons(self):
        """The number of comparisons; what has the sign = counts as two."""
        signs = [sign for step in self.steps for sign in signs_of(step)]
        return len(signs) + signs.count("=")

    @property
    def has_row(self):
        """Whether row x is on the board behind the steps."""
        there = self.op not in NEW
        for step in self.steps:
            there = _is_there(step, there)
        return there

    def __call__(self, board, x=None, y=None, to=None, k=None, visit=None):
        """Carries out the steps on a board, which changes."""
        before = {row: board.at(row) for row in board}
        check_call(self.op, {row: before[row][0] for row in before}, x, y, to, k)
        if visit not in (None, "up", "down"):
            raise BadVisit(visit)
        after = dict(before)
        call = Call(after, x, y, to, k)
        for index, step in enumerate(self.steps):
            call.carry_out(after, index, step, visit)
        # Only now, when no step can fail any more, the board changes.
        bring(board, before, after)


def pattern(op):
    """A handler that does what an operation does."""
    arguments_of(op)
    lines = PATTERNS[op]
    return Handler(op, *lines)


def has_last(handler):
    """Whether a handler has the base old last of a list."""
    bases = [base for step in handler.steps for base in step.reads()]
    return "old last home" in bases or "old last to" in bases


def bring(board, before, after):
    """Brings the rows of a board from where they were to where they are afterwards."""
    for row in before:
        if row not in after:
            board.drop(row)
    for row in after:
        if row not in before or before[row] != after[row]:
            board[after[row]] = row


def _steps(op, lines):
    """The steps of a handler, each right for the operation."""
    found = []
    there = op not in NEW
    for index, line in enumerate(lines):
        step = _step(line, index)
        if not _is_right(step, op, there):
            raise BadStep(index)
        there = _is_there(step, there)
        found.append(step)
    return tuple(found)


def _step(line, index):
    try:
        return read_step(line)
    except BadLine:
        raise BadStep(index) from None


def _is_there(step, there):
    """Whether row x is on the board behind a step, if it is there ahead of it or not."""
    if isinstance(step, Drop):
        return False
    return there or (isinstance(step, Write) and step.row == "x")


def _is_right(step, op, there):
    """Whether a step uses nothing that an operation does not have."""
    if not all([_has_base(op, base, there) for base in step.reads()]):
        return False
    if step.guard in (("within",), ("apart",)) and op not in TWO_LISTS:
        return False
    if isinstance(step, Shift):
        return all([_has(op, word) for word in (step.target, *step.spared)])
    if isinstance(step, Write):
        return _has(op, step.row) and _has(op, step.target) and (there or step.guard is None)
    return there and step.guard is None and op not in ("put", "add", "swap")


def _has_base(op, base, there):
    if base == "x":
        return there
    if base == "old x":
        return op not in NEW
    return _has(op, base.split(" ")[-1])


def _has(op, word):
    """Whether an operation has a list, a row or k."""
    if word == "home":
        return op not in NEW
    if word == "to":
        return op in TWO_LISTS or op in NEW
    if word in ("y", "k"):
        return word in arguments_of(op)
    return True
