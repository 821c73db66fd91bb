"""Trees of lines that cut the walls of a plan into pieces."""

from eyeorder.errors import BadOrder, BadTree
from eyeorder.kinds import same
from eyeorder.pieces import parted, whole
from eyeorder.places import check_place, is_line, side, through
from eyeorder.plans import check_plan


def built(plan, order):
    """The tree of a plan whose lines are those of the walls, in the order of their names."""
    check_plan(plan)
    if not is_order(plan, order):
        raise BadOrder(order)
    return grown(whole(plan), {name: rank for rank, name in enumerate(order)})


def is_tree(plan, thing):
    check_plan(plan)
    return holds_just(thing, whole(plan))


def pieces_of(plan, tree):
    """All pieces of a tree, by the position of the wall in the plan, then along it."""
    check_tree(plan, tree)
    # The pieces of a wall cover it without a gap, so each begins where the one before it ends.
    starts = {(name, p): (name, p, q) for name, p, q in held(tree)}
    pieces = []
    for name, at, end in whole(plan):
        while at != end:
            piece = starts[(name, at)]
            pieces.append(piece)
            at = piece[2]
    return tuple(pieces)


def depth(plan, tree):
    """The greatest number of nodes on a way down."""
    check_tree(plan, tree)
    return levels(tree)


def cell_path(plan, tree, p):
    """The turns on the way down to the cell of a place, or None if the place is on a line on this way."""
    check_tree(plan, tree)
    check_place(p)
    turns = []
    while tree is not None:
        line, _, left, right = tree
        where = side(line, p)
        if where == 0:
            return None
        turns.append("left" if where == 1 else "right")
        tree = left if where == 1 else right
    return tuple(turns)


def check_tree(plan, thing):
    """Raises BadPlan, then BadTree."""
    if not is_tree(plan, thing):
        raise BadTree(thing)


def is_order(plan, thing):
    """Whether thing is a tuple of the names of the walls of the plan, each once."""
    if not isinstance(thing, tuple) or not all([isinstance(name, str) for name in thing]):
        return False
    return sorted(thing) == sorted([wall[0] for wall in plan])


def grown(pieces, ranks):
    """The tree of pieces of different walls, whose line is that of the piece with the least rank."""
    if pieces == []:
        return None
    _, p, q = min(pieces, key=lambda piece: ranks[piece[0]])
    line = through(p, q)
    on, lefts, rights = parted(pieces, line)
    return (line, tuple(on), grown(lefts, ranks), grown(rights, ranks))


def holds_just(thing, pieces):
    """Whether thing is a tree whose pieces are just these, cut at its lines."""
    if thing is None:
        return pieces == []
    if not isinstance(thing, tuple) or len(thing) != 4 or not is_line(thing[0]):
        return False
    line, own, left, right = thing
    # The pieces come down in the order of the plan, and a wall has at most one piece on a line in a convex
    # part of the plane, so no two of them need to be joined or sorted here.
    on, lefts, rights = parted(pieces, line)
    return same(own, tuple(on)) and holds_just(left, lefts) and holds_just(right, rights)


def held(tree):
    """The pieces of a tree, as they come."""
    if tree is None:
        return []
    _, own, left, right = tree
    return [*own, *held(left), *held(right)]


def levels(tree):
    return 0 if tree is None else 1 + max(levels(tree[2]), levels(tree[3]))
