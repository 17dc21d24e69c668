"""Gaps: what keeps lists from being dense, in one scene or in all of them."""
from rowsinplace.regions import meeting, narrowed


def first_gap(ends):
    """What keeps rows from standing dense, or None.

    The rows are given as tuples of their spots, ascending, and their ends (list, place); these are
    all rows of their lists.
    """
    counts = {}
    for spot, (lst, place) in ends:
        counts[lst] = counts.get(lst, 0) + 1
    for spot, (lst, place) in ends:
        if place < 1:
            return ("low", spot)
    for spot, (lst, place) in ends:
        if place > counts[lst]:
            return ("high", spot)
    return _first_double(ends)


def looked_at(named, lists):
    """The rows to look at, alone and two at a time, each with the kinds of those that no call names."""
    alone = [([row], ()) for row in named] + [(["row"], (lst,)) for lst in lists]
    return alone + paired_rows(named, lists)


def paired_rows(named, lists):
    """The rows to look at two at a time that can come to one list."""
    found = [(named, ())] if len(named) == 2 else []
    found.extend([(["row", "next"], (lst, lst)) for lst in lists])
    # The rows that calls name never come to the list other.
    found.extend([([row, "row"], (lst,)) for lst in lists if lst != "other" for row in named])
    return found


def gap_parts(branch, rows, field):
    """The parts of a branch in which a row is too low or too high, or two rows are at one place."""
    if len(rows) == 2:
        return double_parts(branch, *rows)
    row = rows[0]
    if row not in branch.rows:
        return []
    lst, number, offset = branch.rows[row]
    last, more = field.rows_in(branch, lst)
    part = narrowed(branch.region, (last, number, offset - more - 1))
    return low_parts(branch, row) + ([] if part is None else [part])


def low_parts(branch, row):
    """The part of a branch in which a row is below place 1, as a list; empty without such a part."""
    if row not in branch.rows:
        return []
    _, number, offset = branch.rows[row]
    part = narrowed(branch.region, (number, 0, -offset))
    return [] if part is None else [part]


def double_parts(branch, row, other):
    """The part of a branch in which two rows are at one place, as a list; empty without such a part."""
    return meeting(branch.region, branch.rows.get(row), branch.rows.get(other))


def _first_double(ends):
    """The first two spots whose rows come to one place of a list, or None."""
    there = {}
    for spot, end in ends:
        there.setdefault(end, []).append(spot)
    for spot, end in ends:
        if len(there[end]) > 1:
            return ("double", spot, there[end][1])
    return None
