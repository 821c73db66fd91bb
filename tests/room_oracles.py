"""What the document says of cells, openings, ways, chains and what can be seen, without the package.

Points are pairs of fractions here. Cells are found as corners of half planes, what can be seen by trying all lines.
"""

from fractions import Fraction
from functools import lru_cache
from itertools import combinations
from math import gcd

from tests.oracles import built_by_the_words, ends, line_of, node_pieces, parts, place_of, point, turned, worth
from tests.promises import first_fault


def turn(p, q, r):
    """Above 0 if one turns to the left when one goes from p to q and on to r."""
    return (q[0] - p[0]) * (r[1] - p[1]) - (q[1] - p[1]) * (r[0] - p[0])


# Cells.

def paths(tree, above=()):
    """The lines above each cell, with the sign of the side on which it is."""
    if tree is None:
        return [above]
    line, _, left, right = tree
    return paths(left, (*above, (line, 1))) + paths(right, (*above, (line, -1)))


def edges_of_box(box):
    x, y, u, v = box
    return (((1, 0, -x), 1), ((1, 0, -u), -1), ((0, 1, -y), 1), ((0, 1, -v), -1))


def crossing(one, other):
    (a, b, c), (d, e, f) = one, other
    bottom = a * e - b * d
    if bottom == 0:
        return None
    return Fraction(b * f - c * e, bottom), Fraction(c * d - a * f, bottom)


def hull(points):
    """The corners of the convex hull, counterclockwise; fewer than three if it has no inside."""
    chains = []
    for row in (sorted(set(points)), sorted(set(points), reverse=True)):
        chain = []
        for p in row:
            while len(chain) > 1 and turn(chain[-2], chain[-1], p) <= 0:
                chain.pop()
            chain.append(p)
        chains.append(chain)
    return chains[0][:-1] + chains[1][:-1]


def polygon(above, box):
    """The corners of what a cell has in common with the box, or [] if that has no inside."""
    limits = (*above, *edges_of_box(box))
    points = [crossing(one, other) for (one, _), (other, _) in combinations(limits, 2)]
    found = hull([p for p in points if p and all(sign * worth(line, p) >= 0 for line, sign in limits)])
    return found if len(found) > 2 else []


@lru_cache(maxsize=32)
def polygons(tree, box):
    return [polygon(above, box) for above in paths(tree)]


def is_box_by_the_words(plan, tree, thing):
    if type(thing) is not tuple or len(thing) != 4 or not all(type(n) is int for n in thing):
        return False
    x, y, u, v = thing
    inside = all(x < s < u and y < t < v for _, p, q in plan for s, t in (p, q))
    return x < u and y < v and inside and all(polygons(tree, thing))


def cells_by_the_words(tree, box):
    found = []
    for corners in polygons(tree, box):
        places = [place_of(*p) for p in corners]
        k = places.index(min(places))
        found.append(tuple(places[k:] + places[:k]))
    return tuple(found)


def cell_of(tree, box, place):
    """The number of the polygon in whose inside the place is, or None."""
    at = point(place)
    for k, corners in enumerate(polygons(tree, box)):
        if all(turn(p, corners[i - len(corners) + 1], at) > 0 for i, p in enumerate(corners)):
            return k
    return None


# Openings and ways.

def sides(corners):
    return [(p, corners[k - len(corners) + 1]) for k, p in enumerate(corners)]


def fraction_of(p, q, r):
    """How far r, a point of the line, is on the way from p to q."""
    k = 0 if p[0] != q[0] else 1
    return Fraction(r[k] - p[k]) / (q[k] - p[k])


def at_fraction(p, q, t):
    return p[0] + t * (q[0] - p[0]), p[1] + t * (q[1] - p[1])


def common_border(one, other):
    """The segment of more than one point along which two polygons border, the first one on its left; or None."""
    for p, q in sides(one):
        for r, s in sides(other):
            if turn(p, q, r) == turn(p, q, s) == 0:
                low, high = sorted([fraction_of(p, q, r), fraction_of(p, q, s)])
                low, high = max(low, 0), min(high, 1)
                if low < high:
                    return at_fraction(p, q, low), at_fraction(p, q, high)
    return None


def covered(p, q, wall):
    """The fractions of the way from p to q between which one is on the wall, or None."""
    r, s = ends(wall)
    start, end = turn(p, q, r), turn(p, q, s)
    if start == end == 0:
        low, high = sorted([fraction_of(p, q, r), fraction_of(p, q, s)])
    elif start * end > 0:
        return None
    else:
        low = high = fraction_of(p, q, at_fraction(r, s, Fraction(start) / (start - end)))
    low, high = max(low, 0), min(high, 1)
    return (low, high) if low <= high else None


def free_parts(plan, p, q):
    walls = [found for found in (covered(p, q, wall) for wall in plan) if found]
    cuts = sorted({Fraction(0), Fraction(1), *(t for pair in walls for t in pair)})
    for low, high in zip(cuts, cuts[1:]):
        if not any(start <= low and high <= end for start, end in walls):
            yield at_fraction(p, q, low), at_fraction(p, q, high)


def openings_by_the_words(plan, tree, box):
    table = []
    for (i, one), (j, other) in combinations(enumerate(polygons(tree, box)), 2):
        border = common_border(one, other)
        if border:
            table += [(i, j, place_of(*p), place_of(*q)) for p, q in free_parts(plan, *border)]
    return tuple(sorted(table))


def chains_in_turn(table, i):
    """The chains from a cell, () too, each with the cells on it, shorter ones first."""
    found = [((), (i,))]
    for chain, route in found:
        yield chain, route
        for k, (one, other, _, _) in enumerate(table):
            for here, there in ((one, other), (other, one)):
                if here == route[-1] and there not in route:
                    found.append(((*chain, k), (*route, there)))


@lru_cache(maxsize=32)
def chains_from(table, i):
    return dict(chains_in_turn(table, i))


def route_of(table, i, thing):
    """The cells on a way, or None for any value that is none to no cell twice."""
    if type(thing) is not tuple or not all(type(k) is int and 0 <= k < len(table) for k in thing):
        return None
    route = [i]
    for one, other, _, _ in (table[k] for k in thing):
        if route[-1] not in (one, other):
            return None
        route.append(other if route[-1] == one else one)
    return route if len(set(route)) == len(route) else None


def reached(table, i):
    """The cells to which there are ways from a cell."""
    found = {i}
    for _ in table:
        for one, other, _, _ in table:
            if one in found or other in found:
                found |= {one, other}
    return sorted(found)


def is_ascending(thing):
    return all(one < other for one, other in zip(thing, thing[1:]))


def way_holds_by_the_words(table, many, i, j, thing):
    if type(thing) is not tuple or len(thing) != 2 or type(thing[1]) is not tuple:
        return False
    kind, told = thing
    if kind == "way":
        route = route_of(table, i, told)
        return route is not None and route[-1] == j
    if kind != "shut" or not all(type(k) is int and 0 <= k < many for k in told) or not is_ascending(told):
        return False
    return i in told and j not in told and all((one in told) == (other in told) for one, other, _, _ in table)


# What can be seen.

def corners_by_the_words(table, i, chain):
    """The left corners and the right corners of a chain from i, in its order."""
    lefts, rights = [], []
    for k in chain:
        one, other, p, q = table[k]
        if i == one:
            lefts, rights, i = lefts + [q], rights + [p], other
        else:
            lefts, rights, i = lefts + [p], rights + [q], one
    return lefts, rights


def lines_nearby(points):
    """Lines through none of the points, such that each way to part the points by a line is that of one of them."""
    for p, q in combinations(points, 2):
        line = line_of(p, q)
        # The first of them that are on this line stand for it.
        own = sorted(r for r in points if worth(line, r) == 0)
        if (p, q) != (own[0], own[1]):
            continue
        before = at_fraction(own[0], own[1], -1)
        for r in [before] + [at_fraction(one, other, Fraction(1, 2)) for one, other in zip(own, own[1:])]:
            # At right angles to the line, through a point of it.
            across = (-line[1], line[0], line[1] * r[0] - line[0] * r[1])
            far = max([abs(worth(across, s) / Fraction(worth(line, s))) for s in points if worth(line, s)], default=0)
            for sign in (1, -1):
                yield tuple((int(far) + 1) * m + sign * n for m, n in zip(line, across))


def crossed_in_turn(table, line):
    """The openings through which a line leads, each with the cells before and behind it, in the line's direction."""
    a, b, _ = line
    found = []
    for k, (i, j, p, q) in enumerate(table):
        p, q = point(p), point(q)
        start, end = worth(line, p), worth(line, q)
        if start * end < 0:
            x, y = at_fraction(p, q, Fraction(start) / (start - end))
            found.append((b * x - a * y, k, *((i, j) if end > 0 else (j, i))))
    return [row[1:] for row in sorted(found)]


def open_chains(plan, tree, box, table):
    """All open chains but (), as pairs of the cell where they begin and the chain."""
    points = {(Fraction(x), Fraction(y)) for _, *pair in plan for x, y in pair}
    points |= {p for corners in polygons(tree, box) for p in corners}
    found = set()
    for line in lines_nearby(sorted(points)):
        for directed in (line, turned(line)):
            rows = crossed_in_turn(table, directed)
            for first in range(len(rows)):
                cell, chain = rows[first][1], ()
                at = cell
                for k, before, behind in rows[first:]:
                    if before != at:
                        break
                    chain, at = (*chain, k), behind
                    found.add((cell, chain))
    return found


def seen_by_the_words(table, chains, i):
    """The cells that can be seen from a cell, by all the open chains."""
    return tuple(sorted({i} | {route_of(table, i, chain)[-1] for cell, chain in chains if cell == i}))


def between(p, q, r):
    """Whether r, a point of the line through p and q, is on the segment."""
    return min(p, q) <= r <= max(p, q)


def in_hull(points, r):
    """Whether a point is in the convex hull of at most three others."""
    if len(points) == 1:
        return points[0] == r
    if any(turn(p, q, r) == 0 and between(p, q, r) for p, q in combinations(points, 2)):
        return True
    if len(points) == 2 or turn(*points) == 0:
        return False
    return len({turn(points[k - 1], points[k], r) > 0 for k in range(3)}) == 1


def hulls_meet(some, others):
    """Whether the convex hulls of one to three points each, together at most four, have a common point."""
    if any(in_hull(others, p) for p in some) or any(in_hull(some, p) for p in others):
        return True
    for p, q in combinations(some, 2):
        for r, s in combinations(others, 2):
            if turn(p, q, r) * turn(p, q, s) < 0 and turn(r, s, p) * turn(r, s, q) < 0:
                return True
    return False


def is_place_by_the_words(thing):
    return type(thing) is tuple and len(thing) == 3 and all(type(n) is int for n in thing)


def is_bar_by_the_words(lefts, rights, some, others):
    for corners, thing in ((lefts, some), (rights, others)):
        if type(thing) is not tuple or not 1 <= len(thing) <= 3:
            return False
        if not all(is_place_by_the_words(p) and p in corners for p in thing) or not is_ascending(thing):
            return False
    return len(some) + len(others) <= 4 and hulls_meet([point(p) for p in some], [point(p) for p in others])


def is_line_between(lefts, rights, thing):
    if not is_place_by_the_words(thing) or thing[:2] == (0, 0) or gcd(*thing) != 1:
        return False
    return all(worth(thing, point(p)) > 0 for p in lefts) and all(worth(thing, point(p)) < 0 for p in rights)


def all_bars(lefts, rights):
    lefts, rights = sorted(set(lefts)), sorted(set(rights))
    for many, more in [(1, 1), (1, 2), (2, 1), (1, 3), (3, 1), (2, 2)]:
        for some in combinations(lefts, many):
            for others in combinations(rights, more):
                if hulls_meet([point(p) for p in some], [point(p) for p in others]):
                    yield some, others


def chain_holds_by_the_words(table, i, chain, thing):
    lefts, rights = corners_by_the_words(table, i, chain)
    if type(thing) is not tuple:
        return False
    if thing[:1] == ("line",) and len(thing) == 2:
        return is_line_between(lefts, rights, thing[1])
    return thing[:1] == ("bar",) and len(thing) == 3 and is_bar_by_the_words(lefts, rights, *thing[1:])


def is_barred_by_the_words(table, i, thing):
    """Whether any value is a chain from i, not (), with a bar of it."""
    if type(thing) is not tuple or len(thing) != 3 or thing[0] == () or route_of(table, i, thing[0]) is None:
        return False
    return is_bar_by_the_words(*corners_by_the_words(table, i, thing[0]), *thing[1:])


def seen_holds_by_the_words(table, i, j, thing):
    if type(thing) is not tuple:
        return False
    if thing[:1] == ("seen",) and len(thing) == 3:
        _, chain, line = thing
        route = route_of(table, i, chain)
        if route is None or route[-1] != j:
            return False
        return line is None if i == j else is_line_between(*corners_by_the_words(table, i, chain), line)
    if thing[:1] != ("hidden",) or len(thing) != 2 or type(thing[1]) is not tuple or i == j:
        return False
    if not all(is_barred_by_the_words(table, i, row) for row in thing[1]) or not is_ascending(thing[1]):
        return False
    barred = {row[0] for row in thing[1]}
    ways = [chain for chain, route in chains_from(table, i).items() if route[-1] == j]
    return all(any(chain[:k] in barred for k in range(1, len(chain) + 1)) for chain in ways)


# Plans with trees that have a box.

def half_of(corners, line, sign):
    """The part of a polygon on one side of a line, or [] if that has no inside."""
    found = []
    for p, q in sides(corners):
        start, end = sign * worth(line, p), sign * worth(line, q)
        if start >= 0:
            found.append(p)
        if start * end < 0:
            found.append(at_fraction(p, q, Fraction(start) / (start - end)))
    return found if any(sign * worth(line, p) > 0 for p in found) else []


def inner_points(line, box):
    """The points of a line inside the box with whole coordinates."""
    (a, b, c), (x, y, u, v) = line, box
    if b == 0:
        return [(-c // a, t) for t in range(y + 1, v)] if c % a == 0 and x < -c // a < u else []
    found = [(s, -(a * s + c) // b) for s in range(x + 1, u) if (a * s + c) % b == 0]
    return [(s, t) for s, t in found if y < t < v]


def next_line(chance, used, box, size):
    """A line for a tree: a new one, one of those that are used, or one through a point of them."""
    kind = chance.random()
    p, q = [(chance.randint(-size, size), chance.randint(-size, size)) for _ in range(2)]
    if used and kind < 0.3:
        return chance.choice(used)
    if used and kind < 0.6:
        p = chance.choice(inner_points(chance.choice(used), box) or [p])
    return line_of(p, q) if p != q else None


def random_lines(chance, many, box, size):
    """A tree of lines, as lists [line, left, right], with so many cells in the box, and the lines."""
    x, y, u, v = [Fraction(n) for n in box]
    top = [None]
    spots, used = [(top, 0, [(x, y), (u, y), (u, v), (x, v)])], []
    while len(spots) < many:
        k = chance.randrange(len(spots))
        above, which, corners = spots[k]
        line = next_line(chance, used, box, size)
        if line is None or not half_of(corners, line, 1) or not half_of(corners, line, -1):
            continue
        above[which] = [line, None, None]
        spots[k:k + 1] = [(above[which], 1, half_of(corners, line, 1)), (above[which], 2, half_of(corners, line, -1))]
        used.append(line)
    return top[0], used


def filled(lines, plan, above=()):
    """The tree of the plan with these lines; raises ValueError if a part of a wall lies in a cell."""
    if lines is None:
        if parts(plan, above):
            raise ValueError
        return None
    line, left, right = lines
    return (line, node_pieces(plan, line, above),
            filled(left, plan, (*above, (line, 1))), filled(right, plan, (*above, (line, -1))))


def is_filled(lines, plan):
    try:
        filled(lines, plan)
    except ValueError:
        return False
    return True


def random_rooms(chance, many, walls, size):
    """A plan of at most so many walls, a tree of it with so many cells, and a box of the tree."""
    edge = size + chance.randint(1, 2)
    box = (-edge, -edge, edge + chance.randint(0, 1), edge)
    lines, used = random_lines(chance, many, box, size)
    plan = ()
    for _ in range(60):
        points = inner_points(chance.choice(used), box) if used else []
        if len(plan) == walls or len(points) < 2:
            continue
        k = chance.randrange(len(points))
        near = max(0, min(len(points) - 1, k + chance.choice([-2, -1, 1, 2])))
        pair = [k, near] if chance.random() < 0.5 else chance.sample(range(len(points)), 2)
        if pair[0] == pair[1]:
            continue
        longer = plan + (("abcdefghij"[len(plan)], points[pair[0]], points[pair[1]]),)
        if first_fault(longer) is None and is_filled(lines, longer):
            plan = longer
    return plan, filled(lines, plan), box


def random_closed_rooms(chance, most, size):
    """A plan of two triangles of walls, perhaps with a wall between or in them, a tree and a box of the tree."""
    while True:
        plan = ()
        for names in ("abc", "def"):
            corners = [(chance.randint(-size, size), chance.randint(-size, size)) for _ in range(3)]
            plan += tuple((name, corners[k - 1], corners[k]) for k, name in enumerate(names))
        pair = [(chance.randint(-size, size), chance.randint(-size, size)) for _ in range(2)]
        plan += (("g", *pair),) if pair[0] != pair[1] and chance.random() < 0.5 else ()
        if any(p == q for _, p, q in plan) or first_fault(plan) is not None:
            continue
        tree = built_by_the_words(plan, tuple(chance.sample([wall[0] for wall in plan], len(plan))))
        box = (-size - 1, -size - 1, size + 1, size + 1)
        if len(paths(tree)) <= most and is_box_by_the_words(plan, tree, box):
            return plan, tree, box
