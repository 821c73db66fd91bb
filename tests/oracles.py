"""What the document says of trees, walks and views, worked out in fractions and without the package."""

from fractions import Fraction
from functools import cmp_to_key
from itertools import combinations
from math import gcd

from tests.promises import first_fault


def point(place):
    return Fraction(place[0], place[2]), Fraction(place[1], place[2])


def place_of(x, y):
    x, y = Fraction(x), Fraction(y)
    w = x.denominator * y.denominator // gcd(x.denominator, y.denominator)
    return int(x * w), int(y * w), w


def ends(wall):
    """The ends of a wall or of a piece as points."""
    _, p, q = wall
    return (p, q) if len(p) == 2 else (point(p), point(q))


def worth(line, at):
    return line[0] * at[0] + line[1] * at[1] + line[2]


def line_of(p, q):
    """The line from the point p to the point q."""
    a, b = p[1] - q[1], q[0] - p[0]
    c = -(a * p[0] + b * p[1])
    scale = 1
    for number in (a, b, c):
        scale *= Fraction(number).denominator
    a, b, c = int(a * scale), int(b * scale), int(c * scale)
    divisor = gcd(a, b, c)
    return a // divisor, b // divisor, c // divisor


def turned(line):
    return tuple(-n for n in line)


def random_plan(chance, many, size):
    """A plan with many walls that touch, end on others, or lie on one line."""
    walls = ()
    while len(walls) < many:
        points = [(chance.randint(-size, size), chance.randint(-size, size)) for _ in range(2)]
        if walls and chance.random() < 0.4:
            points[0] = chance.choice(chance.choice(walls)[1:])
        if walls and chance.random() < 0.3:
            _, (x, y), (u, v) = chance.choice(walls)
            k, m = chance.sample(range(-2, 4), 2)
            points = [(x + k * (u - x), y + k * (v - y)), (x + m * (u - x), y + m * (v - y))]
            points = [(max(-60, min(60, x)), max(-60, min(60, y))) for x, y in points]
        if points[0] == points[1]:
            continue
        longer = walls + (("abcdefghij"[len(walls)] + chance.choice(["", "z", "0"]), *points),)
        if first_fault(longer) is None:
            walls = longer
    return walls


def stretch(wall, above):
    """The fractions of the way along a wall, or None, between which it is on the told side of each line above."""
    p, q = ends(wall)
    low, high = Fraction(0), Fraction(1)
    for line, sign in above:
        start, end = sign * worth(line, p), sign * worth(line, q)
        if start == end:
            if start <= 0:
                return None
        elif end > start:
            low = max(low, Fraction(start, start - end))
        else:
            high = min(high, Fraction(start, start - end))
    return (low, high) if low < high else None


def part(wall, above):
    """The piece of a wall on the told sides of the lines above, or None."""
    found = stretch(wall, above)
    if found is None:
        return None
    (x, y), (u, v) = ends(wall)
    return (wall[0], *(place_of(x + t * (u - x), y + t * (v - y)) for t in found))


def parts(plan, above):
    found = [part(wall, above) for wall in plan]
    return [one for one in found if one is not None]


def node_pieces(plan, line, above):
    on_line = [wall for wall in plan if worth(line, wall[1]) == worth(line, wall[2]) == 0]
    return tuple(parts(on_line, above))


def built_by_the_words(plan, order, above=()):
    left = parts(plan, above)
    if not left:
        return None
    name, p, q = min(left, key=lambda one: order.index(one[0]))
    line = line_of(point(p), point(q))
    return node(plan, line, above, lambda below: built_by_the_words(plan, order, below))


def node(plan, line, above, below):
    sides = [below((*above, (line, sign))) for sign in (1, -1)]
    return (line, node_pieces(plan, line, above), *sides)


def random_line(chance, size):
    while True:
        p, q = [(chance.randint(-size, size), chance.randint(-size, size)) for _ in range(2)]
        if p != q:
            return line_of(p, q)


def random_tree(chance, plan, more, size, above=()):
    """A tree of the plan with at most so many lines more than those of the walls."""
    left = parts(plan, above)
    room = [more]

    def below(path):
        sub = random_tree(chance, plan, room[0] // 2 if path[-1][1] == 1 else room[0], size, path)
        room[0] -= further(sub, plan)
        return sub

    if more and chance.random() < 0.6:
        room[0] -= 1
        kind = chance.random()
        line = random_line(chance, size)
        if plan and kind < 0.3:
            line = line_of(*ends(chance.choice(plan)))
        elif plan and kind < 0.6:
            p = chance.choice(chance.choice(plan)[1:])
            q = (chance.randint(-size, size), chance.randint(-size, size))
            line = line_of(p, q) if p != q else line
        return node(plan, line, above, below)
    if not left:
        return None
    line = line_of(*ends(chance.choice(left)))
    return node(plan, line if chance.random() < 0.5 else turned(line), above, below)


def nodes(tree):
    return 0 if tree is None else 1 + nodes(tree[2]) + nodes(tree[3])


def further(tree, plan):
    """The number of nodes without pieces."""
    return 0 if tree is None else (not tree[1]) + further(tree[2], plan) + further(tree[3], plan)


def mirrored(tree, chance=None):
    """The tree with all lines, or some of them, reversed and their sides exchanged."""
    if tree is None:
        return None
    line, pieces, left, right = tree[0], tree[1], mirrored(tree[2], chance), mirrored(tree[3], chance)
    if chance is not None and chance.random() < 0.5:
        return (line, pieces, left, right)
    return (turned(line), pieces, right, left)


def is_line_by_the_words(thing):
    return (type(thing) is tuple and len(thing) == 3 and all(type(n) is int for n in thing)
            and thing[:2] != (0, 0) and gcd(*thing) == 1)


def is_tree_by_the_words(plan, thing, above=()):
    if thing is None:
        return not parts(plan, above)
    if type(thing) is not tuple or len(thing) != 4 or not is_line_by_the_words(thing[0]):
        return False
    line, pieces, left, right = thing
    return (repr(pieces) == repr(node_pieces(plan, line, above))
            and is_tree_by_the_words(plan, left, (*above, (line, 1)))
            and is_tree_by_the_words(plan, right, (*above, (line, -1))))


def pieces_by_the_words(plan, tree):
    """All pieces, sorted by the position of the wall, then along it."""
    found = []

    def collect(sub):
        if sub is not None:
            found.extend(sub[1])
            collect(sub[2])
            collect(sub[3])

    collect(tree)
    places = {name: k for k, (name, _, _) in enumerate(plan)}

    def key(piece):
        _, p, q = plan[places[piece[0]]]
        at = point(piece[1])
        return places[piece[0]], (at[0] - p[0]) * (q[0] - p[0]) + (at[1] - p[1]) * (q[1] - p[1])

    return tuple(sorted(found, key=key))


def walk_by_the_words(tree, eye):
    if tree is None:
        return ()
    line, pieces, left, right = tree
    lefts, rights = walk_by_the_words(left, eye), walk_by_the_words(right, eye)
    return rights + pieces + lefts if worth(line, point(eye)) < 0 else lefts + pieces + rights


def common_points(eye, direction, wall):
    """The times at which the ray is on the wall: (), one, or the first and the last of many."""
    e, (p, q) = point(eye), ends(wall)
    d, way, gap = direction, (q[0] - p[0], q[1] - p[1]), (p[0] - e[0], p[1] - e[1])
    bottom = d[0] * way[1] - d[1] * way[0]
    if bottom:
        t = Fraction(gap[0] * way[1] - gap[1] * way[0]) / bottom
        k = Fraction(gap[0] * d[1] - gap[1] * d[0]) / bottom
        return (t,) if t >= 0 and 0 <= k <= 1 else ()
    if gap[0] * d[1] != gap[1] * d[0]:
        return ()
    times = sorted(Fraction((x - e[0]) * d[0] + (y - e[1]) * d[1], d[0] ** 2 + d[1] ** 2) for x, y in (p, q))
    return tuple(times) if times[1] >= 0 else ()


def spot(eye, direction, time):
    x, y = point(eye)
    return x + time * direction[0], y + time * direction[1]


def crossed_at(eye, direction, piece):
    """The time at which the ray crosses the piece, or None."""
    times = common_points(eye, direction, piece)
    if len(times) != 1 or spot(eye, direction, times[0]) in ends(piece):
        return None
    return times[0]


def is_eye_by_the_words(plan, eye):
    x, y = point(eye)
    return not any(worth(line_of(p, q), (x, y)) == 0 and min(p[0], q[0]) <= x <= max(p[0], q[0])
                   and min(p[1], q[1]) <= y <= max(p[1], q[1]) for _, p, q in plan)


def sees_by_the_words(plan, eye, direction):
    met = {name: common_points(eye, direction, (name, p, q)) for name, p, q in plan}
    times = [found[0] for found in met.values() if found]
    if not times:
        return None
    first = min(times)
    names = sorted(name for name, found in met.items() if found and found[0] == first)
    return place_of(*spot(eye, direction, first)), tuple(names)


def half(direction):
    return 0 if direction[1] > 0 or direction[1] == 0 and direction[0] > 0 else 1


def by_angle(one, other):
    if half(one) != half(other):
        return half(one) - half(other)
    return one[1] * other[0] - one[0] * other[1]


def direction_to(eye, at):
    x, y, _ = place_of(at[0] - point(eye)[0], at[1] - point(eye)[1])
    return x // gcd(x, y), y // gcd(x, y)


def round_about(eye, walls):
    """The directions of all ends by their angle, each with a direction between it and the next one."""
    found = sorted({direction_to(eye, at) for wall in walls for at in ends(wall)}, key=cmp_to_key(by_angle))
    rows = []
    for k, first in enumerate(found):
        last = found[(k + 1) % len(found)]
        x, y = first[0] + last[0], first[1] + last[1]
        if first[0] * last[1] <= first[1] * last[0]:
            # A turn of half or more: a quarter to the left is between the two.
            x, y = -first[1], first[0]
        rows.append((first, (x // gcd(x, y), y // gcd(x, y))))
    return rows


def wrong_pairs(eye, pieces):
    """The pairs i < j such that some ray crosses both, the later piece nearer."""
    found = {}
    for _, direction in round_about(eye, pieces):
        times = [crossed_at(eye, direction, piece) for piece in pieces]
        for i, j in combinations(range(len(pieces)), 2):
            if times[i] is not None and times[j] is not None and times[j] < times[i]:
                found[i, j] = direction
    return found


def view_by_the_words(plan, eye):
    rows = []
    for first, between in round_about(eye, plan):
        seen = sees_by_the_words(plan, eye, between)
        rows.append((first, seen and seen[1][0]))
    begins = [row for k, row in enumerate(rows) if row[1] != rows[k - 1][1]]
    if not begins:
        return (((1, 0), (1, 0), None, None),)
    sides = {name: "left" if worth(line_of(p, q), point(eye)) > 0 else "right" for name, p, q in plan}
    return tuple((first, begins[(k + 1) % len(begins)][0], name, sides.get(name))
                 for k, (first, name) in enumerate(begins))
