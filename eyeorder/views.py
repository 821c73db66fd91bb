"""Views: which wall an eye sees in each direction."""

from eyeorder.errors import BadDirection
from eyeorder.kinds import same
from eyeorder.pieces import whole
from eyeorder.places import is_direction, side, through
from eyeorder.plans import check_plan
from eyeorder.rays import check_eye, crosses, direction_to, is_nearer, meets, middle, turn
from eyeorder.trees import check_tree
from eyeorder.walks import passed


def sees(plan, eye, direction):
    """The nearest place where the ray meets walls, with the names of these; or None."""
    check_plan(plan)
    check_eye(plan, eye)
    if not is_direction(direction):
        raise BadDirection(direction)
    return seen(plan, eye, direction)


def view(plan, eye):
    """The arcs of directions in which the eye sees one wall, or none."""
    check_plan(plan)
    check_eye(plan, eye)
    turns = turns_between(eye, whole(plan))
    names = [name_seen(plan, eye, middle(first, last)) for first, last in turns]
    return arcs(plan, eye, turns, names)


def view_by_walk(plan, tree, eye):
    """The view, found by the walk of a tree alone: each piece hides what comes after it."""
    check_tree(plan, tree)
    check_eye(plan, eye)
    pieces = passed(tree, eye)
    turns = turns_between(eye, pieces)
    names = [name_of_first(pieces, eye, middle(first, last)) for first, last in turns]
    return arcs(plan, eye, turns, names)


def is_view(plan, eye, thing):
    return same(thing, view(plan, eye))


def walls_seen(plan, eye):
    """The names in the view."""
    return tuple(sorted({name for _, _, name, _ in view(plan, eye) if name is not None}))


def seen(plan, eye, direction):
    best, names = None, []
    for piece in whole(plan):
        at = meets(eye, direction, piece)
        if at is None:
            continue
        if best is None or is_nearer(eye, direction, at, best):
            best, names = at, []
        if at == best:
            names.append(piece[0])
    return None if best is None else (best, tuple(sorted(names)))


def name_seen(plan, eye, direction):
    """The name of the wall that is seen in a direction in which no wall has an end; or None."""
    told = None if direction is None else seen(plan, eye, direction)
    # Walls that meet have an end there, so what is seen here is one wall alone.
    return None if told is None else told[1][0]


def name_of_first(pieces, eye, direction):
    """The name of the first of the pieces that the ray crosses, or None."""
    if direction is None:
        return None
    names = [piece[0] for piece in pieces if crosses(eye, direction, piece)]
    return names[0] if names else None


def turns_between(eye, pieces):
    """The turns from each direction to an end of a piece to the next one, all round."""
    ends = [p for piece in pieces for p in piece[1:]]
    directions = by_angle(sorted({direction_to(eye, p) for p in ends}))
    return list(zip(directions, directions[1:] + directions[:1]))


def by_angle(directions):
    """Different directions, counterclockwise from (1, 0)."""
    return sorted(directions, key=lambda one: len([other for other in directions if is_before(other, one)]))


def is_before(one, other):
    """Whether a direction comes before another one, counterclockwise from (1, 0)."""
    if is_upper(one) != is_upper(other):
        return is_upper(one)
    return turn(one, other) > 0


def is_upper(direction):
    """Whether the angle of the direction is below half a turn."""
    return direction[1] > 0 or direction[1] == 0 and direction[0] > 0


def arcs(plan, eye, turns, names):
    """The view, of turns all round with the name of the wall that is seen in each."""
    lines = {name: through(p, q) for name, p, q in whole(plan)}
    begins = [k for k in range(len(turns)) if names[k] != names[k - 1]]
    if begins == []:
        return (((1, 0), (1, 0), None, None),)
    found = []
    for k, after in zip(begins, begins[1:] + begins[:1]):
        found.append((turns[k][0], turns[after][0], names[k], face(lines, names[k], eye)))
    return tuple(found)


def face(lines, name, eye):
    """The side of the wall on which the eye is, None for no wall."""
    if name is None:
        return None
    return "left" if side(lines[name], eye) == 1 else "right"
