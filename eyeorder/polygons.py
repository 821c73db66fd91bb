"""Convex polygons: tuples of their corners, counterclockwise, none of them where the border does not turn."""

from math import lcm

from eyeorder.places import meeting, through, worth


def rectangle(box):
    x, y, u, v = box
    return ((x, y, 1), (u, y, 1), (u, v, 1), (x, v, 1))


def left_part(polygon, line):
    """What of the polygon is on the left of the line, with its border; () if that has no inside."""
    worths = [worth(line, p) for p in polygon]
    if max(worths, default=0) <= 0:
        return ()
    corners = []
    for k, p in enumerate(polygon):
        if worths[k - 1] * worths[k] < 0:
            corners.append(meeting(line, through(polygon[k - 1], p)))
        if worths[k] >= 0:
            corners.append(p)
    return tuple(corners)


def from_least(polygon):
    """The same polygon, beginning with the least of its corners."""
    at = polygon.index(min(polygon))
    return polygon[at:] + polygon[:at]


def corners_on(line, polygon):
    """The corners on the line: two if the polygon borders on it along a segment, otherwise at most one."""
    return [p for p in polygon if worth(line, p) == 0]


def in_order(line, places):
    """Places on a line, in the direction of the line."""
    scale = 1
    for p in places:
        scale = lcm(scale, p[2])
    return sorted(places, key=lambda p: (line[1] * p[0] - line[0] * p[1]) * (scale // p[2]))
