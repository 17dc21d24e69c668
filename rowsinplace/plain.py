"""Plain boards: the ten operations on plain lists, and which calls are allowed."""
from rowsinplace.checks import is_integer, is_name
from rowsinplace.errors import BadCall, BadOperation

OPERATIONS = ("put", "add", "take", "move", "send", "top", "bottom", "up", "down", "swap")

ARGUMENTS = {
    "put": ("x", "to", "k"),
    "add": ("x", "to"),
    "take": ("x",),
    "move": ("x", "to", "k"),
    "send": ("x", "to"),
    "top": ("x",),
    "bottom": ("x",),
    "up": ("x",),
    "down": ("x",),
    "swap": ("x", "y"),
}

# The operations that bring a new row.
NEW = ("put", "add")


def arguments_of(op):
    """The names of the arguments of an operation."""
    if op not in OPERATIONS:
        raise BadOperation(op)
    return ARGUMENTS[op]


def apply(lists, op, *, x=None, y=None, to=None, k=None):
    """A new plain board: what an operation makes of a plain board."""
    arguments_of(op)
    homes = {row: lst for lst, rows in lists.items() for row in rows}
    check_call(op, homes, x, y, to, k)
    after = {lst: list(rows) for lst, rows in lists.items()}
    if op == "swap":
        _exchange(after[homes[x]], after[homes[y]], x, y)
        return after
    at = _taken_out(after, homes, x)
    if op != "take":
        rows = after.setdefault(homes[x] if to is None else to, [])
        rows.insert(_index(op, len(rows), at, k), x)
    return after


def check_call(op, homes, x, y, to, k):
    """Raises BadCall if a call is not allowed on the board on which each row has that list."""
    for name, worth in (("x", x), ("y", y), ("to", to), ("k", k)):
        if not _fits(name, worth, op, homes, x, to):
            raise BadCall(name)


def _fits(name, worth, op, homes, x, to):
    """Whether an argument fits, if those ahead of it do."""
    if name not in ARGUMENTS[op]:
        return worth is None
    if name == "to":
        return is_name(worth)
    if name == "k":
        return is_integer(worth) and 1 <= worth <= _last_place(homes, x, to)
    if op in NEW:
        return is_name(worth) and worth not in homes
    return isinstance(worth, str) and worth in homes


def _last_place(homes, x, to):
    """The greatest place at which row x can come into a list."""
    return len([row for row in homes if homes[row] == to and row != x]) + 1


def _taken_out(after, homes, x):
    """Takes a row out of its list; the index that it had, None if it is a new one."""
    if x not in homes:
        return None
    rows = after[homes[x]]
    at = rows.index(x)
    rows.remove(x)
    return at


def _index(op, count, at, k):
    """The index at which a row comes into a list with that many other rows."""
    if op in ("put", "move"):
        return k - 1
    if op == "top":
        return 0
    if op == "up":
        return max(at - 1, 0)
    if op == "down":
        return min(at + 1, count)
    return count


def _exchange(rows, others, x, y):
    """Exchanges row x of a list and row y of another one or the same."""
    at, place = rows.index(x), others.index(y)
    rows[at] = y
    others[place] = x
