"""Eyes and the rays that begin at them.

An eye is on no wall of its plan, so it is on none of the pieces either.
"""

from math import gcd

from eyeorder.errors import BadEye
from eyeorder.pieces import whole
from eyeorder.places import is_place, meeting, place, through


def check_eye(plan, thing):
    if not is_eye(plan, thing):
        raise BadEye(thing)


def is_eye(plan, thing):
    """Whether thing is a place that is on no wall of the plan."""
    return is_place(thing) and not any([is_on(thing, piece) for piece in whole(plan)])


def is_on(eye, piece):
    """Whether the place is on the piece, its ends included."""
    _, p, q = piece
    u, v = vector(eye, p), vector(eye, q)
    return turn(u, v) == 0 and along(u, v) <= 0


def vector(eye, p):
    """A vector from the eye towards a place, which is longer than the distance by both their w."""
    return (p[0] * eye[2] - eye[0] * p[2], p[1] * eye[2] - eye[1] * p[2])


def turn(u, v):
    """Above 0 if v is to the left of u, below 0 if it is to the right, 0 if it is ahead or behind."""
    return u[0] * v[1] - u[1] * v[0]


def along(u, v):
    """The scalar product of two vectors."""
    return u[0] * v[0] + u[1] * v[1]


def direction_of(v):
    """The direction of a vector that is not (0, 0)."""
    divisor = gcd(v[0], v[1])
    return (v[0] // divisor, v[1] // divisor)


def direction_to(eye, p):
    """The direction of the ray to a place other than the eye."""
    return direction_of(vector(eye, p))


def middle(first, last):
    """A direction strictly between two, where the turn to the left from one to the other is below a half; or None."""
    if turn(first, last) <= 0:
        return None
    return direction_of((first[0] + last[0], first[1] + last[1]))


def crosses(eye, direction, piece):
    """Whether the ray crosses the piece."""
    _, p, q = piece
    u, v = vector(eye, p), vector(eye, q)
    # The ray is strictly between u and v if it is on the same side of u as v, and v on the same side of it.
    # An eye on the line of the piece has no turn from u to v, and then nothing here is above 0.
    swing = turn(u, v)
    return turn(u, direction) * swing > 0 and turn(direction, v) * swing > 0


def meets(eye, direction, piece):
    """The nearest place of the piece, its ends included, on the ray, or None."""
    _, p, q = piece
    u, v = vector(eye, p), vector(eye, q)
    swing = turn(u, v)
    if swing == 0:
        if turn(u, direction) != 0 or along(u, direction) < 0:
            return None
        return p if is_nearer(eye, direction, p, q) else q
    if turn(u, direction) * swing < 0 or turn(direction, v) * swing < 0:
        return None
    return meeting(ray_line(eye, direction), through(p, q))


def ray_line(eye, direction):
    """The line on which the ray is, in its direction."""
    x, y, w = eye
    return through(eye, place(x + w * direction[0], y + w * direction[1], w))


def is_nearer(eye, direction, p, q):
    """Whether p is nearer to the eye than q, for two places of the ray."""
    return along(vector(eye, p), direction) * q[2] < along(vector(eye, q), direction) * p[2]
