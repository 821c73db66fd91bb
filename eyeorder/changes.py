"""Walls that are put in and taken out, and the house in which this is done."""

from eyeorder.errors import BadName, BadWall
from eyeorder.pieces import parted, whole
from eyeorder.places import check_place, through
from eyeorder.plans import fits, is_named_segment
from eyeorder.rays import check_eye, direction_to, is_nearer, is_on
from eyeorder.trees import check_tree
from eyeorder.views import seen, view


def put_in(plan, tree, wall):
    """The plan with the wall at its end, and the tree into which it is put."""
    check_tree(plan, tree)
    if not is_addition(plan, wall):
        raise BadWall(wall)
    return (plan + (wall,), put_down(tree, as_piece(wall)))


def taken_out(plan, tree, name):
    """The plan and the tree without the wall of this name."""
    check_tree(plan, tree)
    if not is_name_in(plan, name):
        raise BadName(name)
    return (tuple([wall for wall in plan if wall[0] != name]), cleared(tree, name))


class House:
    """A plan, a tree of it and an eye, with the deeds that change them and can be undone."""

    def __init__(self, plan, tree, eye):
        check_tree(plan, tree)
        check_eye(plan, eye)
        self._plan = plan
        self._tree = tree
        self._eye = eye
        self._past = []

    def plan(self):
        return self._plan

    def tree(self):
        return self._tree

    def eye(self):
        return self._eye

    def put(self, wall):
        """Puts a wall in."""
        if not is_addition(self._plan, wall) or is_on(self._eye, as_piece(wall)):
            raise BadWall(wall)
        plan, tree = put_in(self._plan, self._tree, wall)
        self._change(plan, tree, self._eye)

    def take(self, name):
        """Takes a wall out."""
        plan, tree = taken_out(self._plan, self._tree, name)
        self._change(plan, tree, self._eye)

    def go(self, p):
        """Goes to a place; if walls are on the way, stays, and returns the first place that is on walls, and these."""
        check_place(p)
        stop = first_stop(self._plan, self._eye, p)
        if stop is None:
            self._change(self._plan, self._tree, p)
        return stop

    def undo(self):
        """Undoes the last deed; returns whether there was one."""
        if self._past == []:
            return False
        self._plan, self._tree, self._eye = self._past.pop()
        return True

    def view(self):
        return view(self._plan, self._eye)

    def _change(self, plan, tree, eye):
        self._past.append((self._plan, self._tree, self._eye))
        self._plan = plan
        self._tree = tree
        self._eye = eye


def is_addition(plan, thing):
    """Whether thing is a wall with which the plan, this wall at its end, is a plan."""
    return is_named_segment(thing) and fits(plan, thing)


def is_name_in(plan, thing):
    return thing in [wall[0] for wall in plan]


def as_piece(wall):
    return whole((wall,))[0]


def put_down(tree, piece):
    """The tree with a piece of the last wall of the plan, which goes down in it."""
    if tree is None:
        return (through(piece[1], piece[2]), (piece,), None, None)
    line, own, left, right = tree
    # A line cuts a piece into one on each side at most, so only one comes to each node and to each None.
    on, lefts, rights = parted([piece], line)
    for part in lefts:
        left = put_down(left, part)
    for part in rights:
        right = put_down(right, part)
    return (line, (*own, *on), left, right)


def cleared(tree, name):
    """The tree without the pieces of a wall; its nodes stay."""
    if tree is None:
        return None
    line, own, left, right = tree
    return (line, tuple([piece for piece in own if piece[0] != name]), cleared(left, name), cleared(right, name))


def first_stop(plan, eye, p):
    """The nearest place on walls on the way from the eye to p, with the names of these; or None."""
    if p == eye:
        return None
    direction = direction_to(eye, p)
    stop = seen(plan, eye, direction)
    if stop is None or is_nearer(eye, direction, p, stop[0]):
        return None
    return stop
