"""Pieces of walls, and how a line parts them."""

from eyeorder.places import is_place, meeting, side, through


def is_piece(thing):
    """Whether thing has the form of a piece; of which wall, and where on it, is left open."""
    if not isinstance(thing, tuple) or len(thing) != 3:
        return False
    return isinstance(thing[0], str) and is_place(thing[1]) and is_place(thing[2])


def whole(plan):
    """The whole walls of a plan as pieces, in its order."""
    return [(name, (x, y, 1), (u, v, 1)) for name, (x, y), (u, v) in plan]


def parted(pieces, line):
    """The pieces on the line, those on its left and those on its right, cut where they are on both sides."""
    on, lefts, rights = [], [], []
    for piece in pieces:
        name, p, q = piece
        start, end = side(line, p), side(line, q)
        if start == end == 0:
            on.append(piece)
        elif start >= 0 and end >= 0:
            lefts.append(piece)
        elif start <= 0 and end <= 0:
            rights.append(piece)
        else:
            cut = meeting(line, through(p, q))
            first, last = (name, p, cut), (name, cut, q)
            lefts.append(first if start == 1 else last)
            rights.append(last if start == 1 else first)
    return on, lefts, rights
