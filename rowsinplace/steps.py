"""Steps: the lines of handlers, read into their parts."""
from rowsinplace.errors import BadLine

BASES = (
    "k", "x", "y", "old x", "old y", "count home", "count to",
    "old count home", "old count to", "old last home", "old last to",
)
SIGNS = ("<", "<=", ">", ">=", "=")
DIGITS = ("0", "1", "2", "3", "4", "5", "6", "7", "8", "9")
MOVES = {"-3": -3, "-2": -2, "-1": -1, "1": 1, "2": 2, "3": 3}
ROWS = {"x": ("x",), "y": ("y",), "x and y": ("x", "y")}
MOST_CONDITIONS = 3


class Step:
    """A step of a handler: its guard, and its line."""

    def __init__(self, guard, text):
        self.guard = guard
        self.text = text

    def reads(self):
        """The bases in the line, each once."""
        return _each_once(_guard_bases(self.guard))


class Shift(Step):
    """A step that moves the rows of a list, or of all lists, that satisfy its conditions."""

    def __init__(self, guard, text, target, by, conditions, spared):
        Step.__init__(self, guard, text)
        self.target = target
        self.by = by
        self.conditions = conditions
        self.spared = spared

    def reads(self):
        """The bases in the line, each once."""
        return _each_once(_guard_bases(self.guard) + [base for sign, base, offset in self.conditions])


class Write(Step):
    """A step that brings a row to a place of a list."""

    def __init__(self, guard, text, row, target, term):
        Step.__init__(self, guard, text)
        self.row = row
        self.target = target
        self.term = term

    def reads(self):
        """The bases in the line, each once."""
        return _each_once(_guard_bases(self.guard) + [self.term[0]])


class Drop(Step):
    """A step that takes a row off the board."""

    def __init__(self, guard, text, row):
        Step.__init__(self, guard, text)
        self.row = row

    def reads(self):
        """The bases in the line, each once."""
        return _each_once(_guard_bases(self.guard))


def read_step(line):
    """The step that a line tells."""
    step = _step(line) if isinstance(line, str) else None
    if step is None:
        raise BadLine(line)
    return step


def is_so(left, sign, right):
    """Whether two integers are as a sign says."""
    if sign == "<":
        return left < right
    if sign == "<=":
        return left <= right
    if sign == ">":
        return left > right
    if sign == ">=":
        return left >= right
    return left == right


def signs_of(step):
    """The signs in a step, each as often as it stands there."""
    guard = step.guard
    signs = [guard[2]] if guard is not None and len(guard) > 1 else []
    if isinstance(step, Shift):
        return signs + [sign for sign, base, offset in step.conditions]
    return signs


def _guard_bases(guard):
    if guard is None or len(guard) == 1:
        return []
    return [guard[0], guard[3]]


def _each_once(bases):
    found = []
    for base in bases:
        if base != "0" and base not in found:
            found.append(base)
    return found


def _step(line):
    """The step that a string tells, or None."""
    if not line.startswith("when "):
        return _action(None, line, line)
    words, do, action = line.removeprefix("when ").partition(" do ")
    guard = _guard(words)
    if guard is None:
        return None
    return _action(guard, line, action)


def _guard(text):
    if text in ("within", "apart"):
        return (text,)
    for sign in SIGNS:
        left, _, right = text.partition(f" {sign} ")
        first, second = _term(left), _term(right)
        if first is not None and second is not None:
            return (*first, sign, *second)
    return None


def _action(guard, line, action):
    word = action.partition(" ")[0]
    if word == "shift":
        return _shift(guard, line, action)
    if word == "write":
        return _write(guard, line, action)
    if action == "drop x":
        return Drop(guard, line, "x")
    return None


def _shift(guard, line, action):
    action, spare, rows = action.partition(" except ")
    action, where, conditions = action.partition(" where ")
    words = action.split(" ")
    if len(words) != 4 or words[1] not in ("home", "to", "all") or words[2] != "by" or words[3] not in MOVES:
        return None
    found = _conditions(conditions) if where else ()
    if found is None or (spare and rows not in ROWS):
        return None
    spared = ROWS[rows] if spare else ()
    return Shift(guard, line, words[1], MOVES[words[3]], found, spared)


def _conditions(text):
    found = [_condition(part) for part in text.split(" and ")]
    if len(found) > MOST_CONDITIONS or None in found:
        return None
    return tuple(found)


def _condition(text):
    words = text.split(" ")
    if len(words) < 3 or words[0] != "place" or words[1] not in SIGNS:
        return None
    term = _term(" ".join(words[2:]))
    if term is None:
        return None
    return (words[1], *term)


def _write(guard, line, action):
    words = action.split(" ")
    if len(words) < 4 or words[1] not in ("x", "y") or words[2] not in ("home", "to"):
        return None
    term = _term(" ".join(words[3:]))
    if term is None:
        return None
    return Write(guard, line, words[1], words[2], term)


def _term(text):
    """The tuple (base, offset) of a term, or None."""
    if text in DIGITS:
        return ("0", int(text))
    if text in BASES:
        return (text, 0)
    base, sign, digit = text[:-4], text[-4:-1], text[-1:]
    if base not in BASES or sign not in (" + ", " - ") or digit not in DIGITS[1:]:
        return None
    return (base, int(digit) if sign == " + " else -int(digit))
