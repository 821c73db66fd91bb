"""Places, directions and lines of the plane, in whole numbers."""

from math import gcd

from eyeorder.errors import BadLine, BadPlace
from eyeorder.kinds import is_tuple_of_integers


def is_place(thing):
    return is_tuple_of_integers(thing, 3) and thing[2] > 0 and gcd(thing[0], thing[1], thing[2]) == 1


def is_line(thing):
    if not is_tuple_of_integers(thing, 3) or thing[0] == thing[1] == 0:
        return False
    return gcd(thing[0], thing[1], thing[2]) == 1


def is_direction(thing):
    # The greatest common divisor of 0 and 0 is 0, so (0, 0) is none.
    return is_tuple_of_integers(thing, 2) and gcd(thing[0], thing[1]) == 1


def place(x, y, w):
    """The place with the coordinates x / w and y / w."""
    thing = (x, y, w)
    if not is_tuple_of_integers(thing, 3) or w == 0:
        raise BadPlace(thing)
    x, y, w = reduced(thing)
    return (-x, -y, -w) if w < 0 else (x, y, w)


def through(p, q):
    """The line through two places, whose left is to the left of someone who goes from p to q."""
    check_place(p)
    check_place(q)
    if p == q:
        raise BadPlace((p, q))
    return reduced(crossed(p, q))


def side(line, p):
    """1, 0 or -1 if the place is on the left of the line, on it, or on its right."""
    check_line(line)
    check_place(p)
    found = worth(line, p)
    if found == 0:
        return 0
    return 1 if found > 0 else -1


def meeting(one, other):
    """The place that is on both lines, or None if they are parallel or the same."""
    check_line(one)
    check_line(other)
    x, y, w = crossed(one, other)
    return None if w == 0 else place(x, y, w)


def check_place(thing):
    if not is_place(thing):
        raise BadPlace(thing)


def check_line(thing):
    if not is_line(thing):
        raise BadLine(thing)


def worth(line, p):
    return line[0] * p[0] + line[1] * p[1] + line[2] * p[2]


def reduced(triple):
    """The triple divided by its greatest common divisor."""
    a, b, c = triple
    divisor = gcd(a, b, c)
    return (a // divisor, b // divisor, c // divisor)


def crossed(one, other):
    # The vector product serves both ways: of two places it is a multiple of the line through them,
    # of two lines a multiple of their place, because the worth of a place on a line is symmetric.
    a, b, c = one
    d, e, f = other
    return (b * f - c * e, c * d - a * f, a * e - b * d)
