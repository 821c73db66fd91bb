"""What the tests share: values of all kinds, and comparisons that tell True from 1 and a list from a tuple."""

import unittest
from fractions import Fraction
from itertools import combinations

from eyeorder.errors import EyeError

# The two walls of the document's examples.
P = (("a", (2, -1), (2, 1)), ("b", (4, -3), (4, 3)))

DEEP = 0
for _ in range(8):
    DEEP = (DEEP,)

# Values of every kind that the document's "any value" names, valid arguments of some functions among them.
ODD = [
    "", "a", "abc", "wall", "wall a 0 0 1 0", "0", "x" * 200, "\u00e9", "\n",
    0, 1, -1, 2, 7, 999999999999, -999999999999,
    True, False, None,
    (), (0,), (0, 0), (1, 0), (0, 1), (2, 2), (0, 0, 0), (0, 0, 1), (1, 0, 0), (0, 1, 0), (0, 0, 1, 1),
    (True, False), (True, False, True), ("a", "b", "c"), (None, None, None), ((0, 0, 1),), ((0, 0), (1, 1)),
    ("a", (0, 0), (1, 0)), (("a", (0, 0), (1, 0)),), ("meet", 0, 1), DEEP,
    [], [0, 0], [0, 0, 1], [("a", (0, 0), (1, 0))], [[[]]],
    {}, {"a": 1}, {0: 0, 1: 1}, {0: 0, 1: 0, 2: 1}, {(0, 0, 1): (0, 1, 0)}, {"a": [1, (2, {})]},
]


def variants(thing):
    """The thing with parts replaced, omitted, exchanged and repeated, and as a list, at every depth."""
    if not isinstance(thing, (tuple, list)):
        return
    kind = type(thing)
    yield list(thing) if kind is tuple else tuple(thing)
    yield dict(enumerate(thing))
    for k in range(len(thing)):
        yield thing[:k] + thing[k + 1:]
        yield thing[:k] + thing[k:k + 1] + thing[k:]
        for j in range(k):
            swapped = list(thing)
            swapped[j], swapped[k] = swapped[k], swapped[j]
            yield kind(swapped)
        for part in ODD + list(variants(thing[k])):
            yield thing[:k] + kind([part]) + thing[k + 1:]


def exact(value):
    """The value told such that True is not 1 and a list is not a tuple."""
    return (type(value).__name__, repr(value))


def walls_of(*segments):
    """Walls with the names a, b and so on, of segments (x, y, u, v)."""
    return tuple(("abcdefghij"[k], (x, y), (u, v)) for k, (x, y, u, v) in enumerate(segments))


def span(p, q, r):
    """How far r is along the way from p to q, as a fraction of it, for an r on this line."""
    along = 0 if p[0] != q[0] else 1
    return Fraction(r[along] - p[along], q[along] - p[along])


def bad_meeting(one, other):
    """Whether the walls have more than one common point, or one inside both: by solving p + t(q - p) = r + k(s - r)."""
    (_, p, q), (_, r, s) = one, other
    d, e, gap = (q[0] - p[0], q[1] - p[1]), (s[0] - r[0], s[1] - r[1]), (r[0] - p[0], r[1] - p[1])
    bottom = d[0] * e[1] - d[1] * e[0]
    if bottom:
        t = Fraction(gap[0] * e[1] - gap[1] * e[0], bottom)
        k = Fraction(gap[0] * d[1] - gap[1] * d[0], bottom)
        return 0 < t < 1 and 0 < k < 1
    if gap[0] * d[1] != gap[1] * d[0]:
        return False
    low, high = sorted([span(p, q, r), span(p, q, s)])
    return max(low, 0) < min(high, 1)


def first_fault(walls):
    for i, j in combinations(range(len(walls)), 2):
        if bad_meeting(walls[i], walls[j]):
            return ("meet", i, j)
    return None


def random_walls(chance, many, size):
    walls = []
    while len(walls) < many:
        p, q = [(chance.randint(-size, size), chance.randint(-size, size)) for _ in range(2)]
        if p != q:
            walls.append((f"w{len(walls)}", p, q))
    return tuple(walls)


class PromiseCase(unittest.TestCase):
    def assert_same(self, got, wanted):
        self.assertEqual(exact(got), exact(wanted))

    def assert_error(self, error, value, function, *args, **more):
        """The call raises just this error with just this value, twice, and leaves its arguments as they were."""
        before = repr((args, more))
        for _ in range(2):
            with self.assertRaises(EyeError, msg=f"{function.__name__}{args!r}") as caught:
                function(*args, **more)
            self.assertIs(type(caught.exception), error, f"{function.__name__}{args!r}")
            told = caught.exception.line if error.__name__ == "BadText" else caught.exception.thing
            self.assert_same(told, value)
            self.assertEqual(repr((args, more)), before)
