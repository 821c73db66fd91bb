"""Pictures of what an eye sees ahead of it, a column for each of many directions."""

from math import gcd

from eyeorder.errors import BadCamera, BadNumber
from eyeorder.kinds import is_integer
from eyeorder.places import is_direction
from eyeorder.plans import check_plan
from eyeorder.rays import along, direction_of, is_eye, vector
from eyeorder.views import seen

WIDEST = 8
MOST_COLUMNS = 60
MOST_ROWS = 40


def is_camera(plan, thing):
    check_plan(plan)
    if not isinstance(thing, tuple) or len(thing) != 4:
        return False
    eye, forward, wide, columns = thing
    if not is_eye(plan, eye) or not is_direction(forward):
        return False
    return is_between(1, wide, WIDEST) and is_between(1, columns, MOST_COLUMNS)


def column_direction(plan, camera, k):
    """The direction in which the eye looks for a column."""
    check_camera(plan, camera)
    if not is_between(0, k, camera[3] - 1):
        raise BadNumber(k)
    return direction_at(camera, k)


def shown(plan, camera):
    """What each column shows: None, or the name of a wall, the place on it and how deep in the picture it is."""
    check_camera(plan, camera)
    return tuple([shown_at(plan, camera, k) for k in range(camera[3])])


def picture(plan, camera, rows):
    """The rows of the picture from top to bottom, one sign for each column."""
    check_camera(plan, camera)
    if not is_between(1, rows, MOST_ROWS):
        raise BadNumber(rows)
    told = [shown_at(plan, camera, k) for k in range(camera[3])]
    return tuple(["".join([sign_at(one, rows, i) for one in told]) for i in range(rows)])


def check_camera(plan, thing):
    """Raises BadPlan, then BadCamera."""
    if not is_camera(plan, thing):
        raise BadCamera(thing)


def is_between(low, thing, high):
    """Whether thing is an integer from low to high."""
    return is_integer(thing) and low <= thing <= high


def direction_at(camera, k):
    _, (x, y), wide, columns = camera
    ahead, aside = 4 * columns, (2 * k + 1 - columns) * wide
    return direction_of((ahead * x + aside * y, ahead * y - aside * x))


def shown_at(plan, camera, k):
    eye, forward, _, _ = camera
    told = seen(plan, eye, direction_at(camera, k))
    if told is None:
        return None
    at, names = told
    return (names[0], at, depth_of(eye, forward, at))


def depth_of(eye, forward, at):
    """How far ahead of the eye a place is, in lengths of the vector forward."""
    # The vector to the place is longer than the distance by both their w.
    top, bottom = along(vector(eye, at), forward), eye[2] * at[2] * along(forward, forward)
    divisor = gcd(top, bottom)
    return (top // divisor, bottom // divisor)


def sign_at(told, rows, i):
    """The sign of a row for a column that shows what is told."""
    if told is None:
        return "."
    name, _, (top, bottom) = told
    return name[0] if abs(2 * i + 1 - rows) * top <= rows * bottom else "."
