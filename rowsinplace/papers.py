"""Papers: what shows, question by question, that two handlers do the same with the rows of a kind."""
from rowsinplace.bounds import is_bound, is_ring, opposite
from rowsinplace.casts import Cast
from rowsinplace.checks import is_integer
from rowsinplace.errors import OtherOperation
from rowsinplace.fields import followed, homes_of, played, standing_bounds
from rowsinplace.regions import narrowed, unlike
from rowsinplace.runs import Branch
from rowsinplace.tables import check_comparisons, check_kind, numbers_of, told_end

MOST_COMPARISONS = 6


def standing(op, world, kind):
    """The bounds that all scenes of a world, and all spots of a kind in them, satisfy."""
    names = numbers_of(op, world, kind)
    kinds = (kind,) if "row" in names else ()
    return standing_bounds(world, homes_of(Cast(op, world), kinds), names)


def paper(first, second, world, kind):
    """A paper that two handlers are alike for a world and a kind, or None if they are not."""
    _check(first, second, world, kind)
    field, row = followed(first.op, world, kind)
    leaves = []
    for branch in played(first, world, field, [row], field.starts()):
        for other in played(second, world, field, [row], [field.again(branch)]):
            if unlike(other.region, branch.rows.get(row), other.rows.get(row)):
                return None
            path = [(field.names[u], field.names[v], c) for u, v, c in other.path]
            leaves.append((path, told_end(other.rows.get(row), field.names)))
    nodes = []
    _grow(nodes, leaves, 0)
    return nodes


def is_paper(first, second, world, kind, thing):
    """Whether any object is a paper that two handlers are alike for a world and a kind."""
    _check(first, second, world, kind)
    names = numbers_of(first.op, world, kind)
    if not _is_built(thing, ("zero", *names)):
        return False
    return Reader(first, second, world, kind).is_right(thing)


class Reader:
    """Goes through the nodes of a paper, and knows what leads to each of them.

    That is the path of the node, and the scenes and spots that satisfy it.
    """

    def __init__(self, first, second, world, kind):
        self._handlers = (first, second)
        self._world = world
        self._field, self._row = followed(first.op, world, kind, True)
        self._known = {0: (standing(first.op, world, kind), self._field.starts())}

    def is_right(self, nodes):
        """Whether all rings and ends are right."""
        for index, node in enumerate(nodes):
            path, branches = self._known[index]
            if node[0] == "ask":
                self._ask(node, path, branches)
            elif node[0] == "ring":
                if not all([bound in path for bound in node[1]]):
                    return False
            elif not all([self._ends_there(branch, node[1]) for branch in branches]):
                return False
        return True

    def _ask(self, node, path, branches):
        """Tells what leads to the nodes that an ask names."""
        _, bound, yes, no = node
        self._known[yes] = ([*path, bound], self._narrowed(branches, bound))
        self._known[no] = ([*path, opposite(bound)], self._narrowed(branches, opposite(bound)))

    def _narrowed(self, branches, bound):
        """The scenes in which a bound holds, too."""
        u, v, c = bound
        ranks = self._field.ranks
        regions = [narrowed(branch.region, (ranks[u], ranks[v], c)) for branch in branches]
        return [Branch(region, (), self._field.rows, {}) for region in regions if region is not None]

    def _ends_there(self, branch, end):
        """Whether both handlers give an end as the fate in all scenes of a branch."""
        if end is not None:
            lst, base, offset = end
            end = (lst, self._field.ranks[base], offset)
        for handler in self._handlers:
            for after in played(handler, self._world, self._field, [self._row], [branch]):
                if unlike(after.region, after.rows.get(self._row), end):
                    return False
        return True


def _check(first, second, world, kind):
    """Raises the errors of a question about two handlers, a world and a kind."""
    if first.op != second.op:
        raise OtherOperation(second.op)
    check_kind(first.op, world, kind)
    check_comparisons(first.comparisons + second.comparisons, MOST_COMPARISONS)


def _grow(nodes, leaves, depth):
    """Puts the nodes behind the nodes: of leaves (path, end) that have that many bounds in common."""
    path, end = leaves[0]
    if len(leaves) == 1:
        nodes.append(("end", end))
        return
    index = len(nodes)
    nodes.append(None)
    bound = path[depth]
    _grow(nodes, [leaf for leaf in leaves if leaf[0][depth] == bound], depth + 1)
    no = len(nodes)
    _grow(nodes, [leaf for leaf in leaves if leaf[0][depth] != bound], depth + 1)
    nodes[index] = ("ask", bound, index + 1, no)


def _is_built(thing, names):
    """Whether an object is a list of nodes that name each other as those of a paper do."""
    if not isinstance(thing, list) or not thing:
        return False
    if not all([_is_node(node, index, len(thing), names) for index, node in enumerate(thing)]):
        return False
    named = [index for node in thing if node[0] == "ask" for index in node[2:]]
    return sorted(named) == list(range(1, len(thing)))


def _is_node(thing, index, many, names):
    """Whether an object is a node with that index, among that many."""
    if not isinstance(thing, tuple) or len(thing) not in (2, 4):
        return False
    if thing[0] == "ask":
        return len(thing) == 4 and _is_over(thing[1], names) and all([_is_behind(at, index, many) for at in thing[2:]])
    if thing[0] == "ring":
        return len(thing) == 2 and isinstance(thing[1], tuple) and is_ring(thing[1])
    return thing[0] == "end" and len(thing) == 2 and _is_end(thing[1], names)


def _is_over(thing, names):
    """Whether an object is a bound over some names."""
    return is_bound(thing) and thing[0] in names and thing[1] in names


def _is_behind(thing, index, many):
    return is_integer(thing) and index < thing < many


def _is_end(thing, names):
    """Whether an object is an end over some numbers."""
    if thing is None:
        return True
    if not isinstance(thing, tuple) or len(thing) != 3:
        return False
    lst, base, offset = thing
    return lst in ("home", "to", "other") and base in names and is_integer(offset)
