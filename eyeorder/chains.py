"""The corners of chains of openings, and the lines and bars that tell whether one can look through them."""

from eyeorder.places import crossed, is_line, is_place, reduced, worth

MOST_OF_A_BAR = 4


def corners(table, i, chain):
    """The left and the right corners of the chain from i, both ascending."""
    lefts, rights = [], []
    cell = i
    for k in chain:
        one, other, p, q = table[k]
        lefts.append(q if cell == one else p)
        rights.append(p if cell == one else q)
        cell = other if cell == one else one
    return sorted(set(lefts)), sorted(set(rights))


def parts(thing, lefts, rights):
    """Whether thing is a line with all of the one places on its left and all of the others on its right."""
    if not is_line(thing):
        return False
    return all([worth(thing, p) > 0 for p in lefts]) and all([worth(thing, q) < 0 for q in rights])


def is_bar(some, others, lefts, rights):
    """Whether any two values are few of the left and of the right corners that no line parts."""
    if not are_some_of(lefts, some) or not are_some_of(rights, others):
        return False
    # As there is one on each side, there are at most three on each.
    return len(some) + len(others) <= MOST_OF_A_BAR and line_between(some, others) is None


def are_some_of(places, thing):
    """Whether thing is an ascending tuple of one or more of the places."""
    if not isinstance(thing, tuple) or thing == ():
        return False
    if not all([is_place(p) and p in places for p in thing]):
        return False
    return list(thing) == sorted(set(thing))


def line_between(lefts, rights):
    """A line with all of the one places on its left and all of the others on its right, or None.

    If there is one, it can be turned until it touches both the one places and the others, and then it goes through
    one of each, between which no further one lies on it. So it is enough to try these lines, tilted a little about
    the middle between the two.
    """
    for p in lefts:
        for q in rights:
            across = halving(p, q)
            for line in (crossed(p, q), crossed(q, p)):
                if parts_tilted(line, across, lefts, rights):
                    return tilted(line, across, [*lefts, *rights])
    return None


def halving(p, q):
    """The line that goes at right angles through the middle between p and q, and has p on its left."""
    (x, y, w), (u, v, t) = p, q
    a, b = x * t - u * w, y * t - v * w
    return (2 * w * t * a, 2 * w * t * b, -a * (x * t + u * w) - b * (y * t + v * w))


def parts_tilted(line, across, lefts, rights):
    """Whether the line parts the places if across tells for those that are on it."""
    for p in lefts:
        if (worth(line, p) or worth(across, p)) <= 0:
            return False
    for q in rights:
        if (worth(line, q) or worth(across, q)) >= 0:
            return False
    return True


def tilted(line, across, places):
    """A line that has each place on the same side as the line, or, where it is on the line, as across."""
    turns = [abs(worth(across, p)) // abs(worth(line, p)) for p in places if worth(line, p) != 0]
    many = 1 + max(turns, default=0)
    (a, b, c), (d, e, f) = line, across
    return reduced((many * a + d, many * b + e, many * c + f))


def least_bar(lefts, rights):
    """A bar of corners that no line parts."""
    # If every four of the places could be parted, then all could. So what is left, of which no place
    # can be left out any more, are at most four.
    some = needed(lefts, rights)
    return tuple(some), tuple(needed(rights, some))


def needed(places, others):
    """What is left of the places when each that a bar does not need is left out, one after the other."""
    kept = places
    for p in places:
        fewer = [q for q in kept if q != p]
        if fewer != [] and line_between(fewer, others) is None:
            kept = fewer
    return kept
