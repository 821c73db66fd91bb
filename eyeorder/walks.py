"""Walks of trees: orders of the pieces in which nearer ones come before those that they hide."""

from itertools import combinations, permutations

from eyeorder.errors import BadPieces
from eyeorder.kinds import is_integer
from eyeorder.pieces import is_piece
from eyeorder.places import is_direction, side
from eyeorder.rays import check_eye, crosses, is_nearer, meets, middle, vector
from eyeorder.trees import check_tree, held


def walk(plan, tree, eye):
    """All pieces of a tree; of two that a ray from the eye crosses, the nearer one comes first."""
    check_tree(plan, tree)
    check_eye(plan, eye)
    return tuple(passed(tree, eye))


def judge_pieces(plan, tree, eye, pieces):
    """A certificate for an order of the pieces of a tree."""
    check_pieces(plan, tree, eye, pieces)
    found = first_wrong(eye, pieces)
    return ("fits",) if found is None else found


def pieces_holds(plan, tree, eye, pieces, thing):
    """Whether thing is a certificate for an order of the pieces of a tree."""
    check_pieces(plan, tree, eye, pieces)
    if not isinstance(thing, tuple):
        return False
    if len(thing) == 4 and thing[0] == "wrong":
        return is_wrong_at(eye, pieces, thing)
    return thing == ("fits",) and first_wrong(eye, pieces) is None


def check_pieces(plan, tree, eye, pieces):
    """Raises BadPlan, BadTree, BadEye, then BadPieces."""
    check_tree(plan, tree)
    check_eye(plan, eye)
    if not are_pieces(tree, pieces):
        raise BadPieces(pieces)


def are_pieces(tree, thing):
    """Whether thing is a tuple of the pieces of the tree, each once."""
    if not isinstance(thing, tuple) or not all([is_piece(part) for part in thing]):
        return False
    return sorted(thing) == sorted(held(tree))


def passed(tree, eye):
    """The pieces of a tree in the order of the walk."""
    if tree is None:
        return []
    line, own, left, right = tree
    if side(line, eye) == -1:
        return [*passed(right, eye), *own, *passed(left, eye)]
    return [*passed(left, eye), *own, *passed(right, eye)]


def first_wrong(eye, pieces):
    """The first certificate that the order does not fit, or None."""
    for i, j in combinations(range(len(pieces)), 2):
        direction = common_direction(eye, pieces[i], pieces[j])
        # All rays that cross both meet them in the same order, as walls do not cross: one ray tells.
        if direction is not None and is_hidden(eye, direction, pieces[i], pieces[j]):
            return ("wrong", i, j, direction)
    return None


def is_wrong_at(eye, pieces, thing):
    """Whether a tuple that begins with "wrong" is a certificate that the order does not fit."""
    _, i, j, direction = thing
    if not is_integer(i) or not is_integer(j) or not 0 <= i < j < len(pieces) or not is_direction(direction):
        return False
    one, other = pieces[i], pieces[j]
    if not crosses(eye, direction, one) or not crosses(eye, direction, other):
        return False
    return is_hidden(eye, direction, one, other)


def common_direction(eye, one, other):
    """A direction in which a ray crosses both pieces, or None."""
    # These directions are the turn between two that lead to ends of the pieces, so one between these two does.
    bounds = [vector(eye, p) for p in (*one[1:], *other[1:])]
    for first, last in permutations(bounds, 2):
        direction = middle(first, last)
        if direction is not None and crosses(eye, direction, one) and crosses(eye, direction, other):
            return direction
    return None


def is_hidden(eye, direction, one, other):
    """Whether the ray, which crosses both pieces, comes to the other one first."""
    return is_nearer(eye, direction, meets(eye, direction, other), meets(eye, direction, one))
