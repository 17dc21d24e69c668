"""Mends: small changes of handlers, and the fewest of them behind which a handler is right."""
from rowsinplace.checks import is_integer
from rowsinplace.courses import Course
from rowsinplace.errors import BadMend, BadStep, TooMany
from rowsinplace.handlers import Handler, pattern
from rowsinplace.steps import Shift, Write
from rowsinplace.tables import check_comparisons
from rowsinplace.verdicts import right

MOST_STEPS = 4
MOST_COMPARISONS = 3

TURNED = {"<": "<=", "<=": "<", ">": ">=", ">=": ">"}
OTHER_BASES = {
    "x": "old x",
    "old x": "x",
    "y": "old y",
    "old y": "y",
    "count home": "old count home",
    "old count home": "count home",
    "count to": "old count to",
    "old count to": "count to",
}


def mends_of(handler):
    """All mends of a handler, ascending."""
    return sorted([mend for mend in _changes(handler) if _behind(handler, mend) is not None])


def mended(handler, mend):
    """The handler behind a mend."""
    # True would be found in the place of 1.
    is_built = isinstance(mend, tuple) and all([is_integer(part) for part in mend[1:]])
    found = _behind(handler, mend) if is_built and mend in _changes(handler) else None
    if found is None:
        raise BadMend(mend)
    return found


def fewest_mends(handler):
    """A shortest list of at most two mends behind which a handler is right, or None."""
    if len(handler.steps) > MOST_STEPS:
        raise TooMany(MOST_STEPS)
    check_comparisons(handler.comparisons, MOST_COMPARISONS)
    judge = Judge(handler.op)
    if judge.is_right(handler):
        return []
    ways = [(mend, _behind(handler, mend)) for mend in mends_of(handler)]
    for mend, once in ways:
        if judge.is_right(once):
            return [mend]
    for mend, once in ways:
        for other in mends_of(once):
            if judge.is_right(_behind(once, other)):
                return [mend, other]
    return None


class Judge:
    """Tells of many handlers of an operation whether they are right.

    It keeps the scenes that showed a fault, with what is due in them: most of the other handlers
    show one there, too.
    """

    def __init__(self, op):
        self._pattern = pattern(op)
        self._known = {}
        self._scenes = []

    def is_right(self, handler):
        """Whether a handler is right."""
        if handler.text not in self._known:
            self._known[handler.text] = self._passes(handler) and self._is_proven(handler)
        return self._known[handler.text]

    def _passes(self, handler):
        """Whether a handler is right in the scenes that are kept; the scene of a fault comes to the front."""
        at = self._first_fault(handler)
        if at is None:
            return True
        self._scenes = [self._scenes[at], *self._scenes[:at], *self._scenes[at + 1:]]
        return False

    def _first_fault(self, handler):
        """The index of the first of the scenes that are kept in which a handler is not right, or None."""
        for index, (scene, dues) in enumerate(self._scenes):
            course = Course(handler, scene)
            if not all([course.end(spot) == due for spot, due in dues]):
                return index
        return None

    def _is_proven(self, handler):
        """Whether a handler is right in all scenes; the scene of a fault is kept."""
        scene = right(handler).scene
        if scene is None:
            return True
        course = Course(self._pattern, scene)
        self._scenes = [(scene, [(spot, course.end(spot)) for spot in scene.spots()]), *self._scenes]
        return False


def _changes(handler):
    """All changes that mends may be, whether their lines are right or not."""
    found = []
    for index, step in enumerate(handler.steps):
        if isinstance(step, Shift):
            found.extend([("spare", index), ("turn", index)])
            for at, (sign, base, _) in enumerate(step.conditions):
                found.extend([("bound", index, at)] if sign in TURNED else [])
                found.extend([("read", index, at)] if base in OTHER_BASES else [])
        if isinstance(step, Write):
            found.extend([("less", index), ("more", index)])
            found.extend([("read", index, 0)] if step.term[0] in OTHER_BASES else [])
        if index + 1 < len(handler.steps):
            found.append(("next", index))
    return found


def _behind(handler, mend):
    """The handler behind a change, or None if its lines are not all right."""
    word, index = mend[:2]
    lines = [step.text for step in handler.steps]
    if word == "next":
        lines[index:index + 2] = [lines[index + 1], lines[index]]
    else:
        lines[index] = _changed(handler.steps[index], mend)
    try:
        return Handler(handler.op, *lines)
    except BadStep:
        return None


def _changed(step, mend):
    """The line of a step behind a change of this step."""
    word = mend[0]
    # Guards stay as they are.
    guard = "" if step.guard is None else step.text.partition(" do ")[0] + " do "
    if isinstance(step, Write):
        base, offset = step.term
        terms = {"less": (base, offset - 1), "more": (base, offset + 1), "read": (OTHER_BASES.get(base), offset)}
        return guard + _write_line(step.row, step.target, terms[word])
    conditions = list(step.conditions)
    if word in ("bound", "read"):
        sign, base, offset = conditions[mend[2]]
        changed = (TURNED[sign], base, offset) if word == "bound" else (sign, OTHER_BASES[base], offset)
        conditions[mend[2]] = changed
    by = -step.by if word == "turn" else step.by
    spared = [row for row in ("x", "y") if (row in step.spared) != (word == "spare" and row == "x")]
    return guard + _shift_line(step.target, by, conditions, spared)


def _write_line(row, target, term):
    return f"write {row} {target} {_term_text(term)}"


def _shift_line(target, by, conditions, spared):
    where = [f"place {sign} {_term_text((base, offset))}" for sign, base, offset in conditions]
    line = f"shift {target} by {by}"
    if where:
        line = line + " where " + " and ".join(where)
    return line + " except " + " and ".join(spared) if spared else line


def _term_text(term):
    """A term as it is written in a line, if the line has room for its number."""
    base, offset = term
    if base == "0":
        return str(offset)
    if offset == 0:
        return base
    return f"{base} + {offset}" if offset > 0 else f"{base} - {-offset}"
