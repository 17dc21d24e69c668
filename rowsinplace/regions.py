"""Regions: all ways in which some numbers may lie, as far as bounds of two of them tell it.

A region is a list of rows: region[u][v] is the least c for which u <= v + c in the whole region,
u and v being indexes of numbers, and index 0 standing for zero. No region is empty, and none is
ever changed, so that regions may have rows in common. An end is None, or a list, the index of a
number and a constant.
"""

# Stands for no bound: no sum of constants that handlers and papers have comes near to it.
FAR = 10 ** 50


def whole(many):
    """The region of all ways in which that many numbers may lie, besides zero."""
    ends = list(range(many + 1))
    return [[0 if u == v else FAR for v in ends] for u in ends]


def narrowed(region, bound):
    """The part of a region in which a bound holds, or None if it is empty."""
    u, v, c = bound
    if region[u][v] <= c:
        return region
    if region[v][u] + c < 0:
        return None
    return _closed(region, u, v, c)


def parted(region, bound):
    """The part of a region in which a bound holds, and the other part; None for an empty one."""
    u, v, c = bound
    if region[u][v] <= c:
        return (region, None)
    if region[v][u] + c < 0:
        return (None, region)
    return (_closed(region, u, v, c), _closed(region, v, u, -c - 1))


def least(region):
    """The least values of all numbers in a region, by their indexes; it has them all at once."""
    return [-far for far in region[0]]


def unlike(region, end, other):
    """The parts of a region in which two ends are different."""
    if end is None or other is None or end[0] != other[0]:
        return [] if end == other else [region]
    u, v, c = end[1], other[1], other[2] - end[2]
    parts = [narrowed(region, (u, v, c - 1)), narrowed(region, (v, u, -c - 1))]
    return [part for part in parts if part is not None]


def meeting(region, end, other):
    """The part of a region in which two ends are the same spot, as a list; empty without such a part."""
    if end is None or other is None or end[0] != other[0]:
        return []
    region = narrowed(region, (end[1], other[1], other[2] - end[2]))
    if region is not None:
        region = narrowed(region, (other[1], end[1], end[2] - other[2]))
    return [] if region is None else [region]


def _closed(region, u, v, c):
    """A region with a bound more, and all bounds that follow."""
    after = region[v]
    found = []
    for row in region:
        far = row[u] + c
        found.append([old if old <= far + new else far + new for old, new in zip(row, after)])
    return found
