"""[3.1] to [3.3], and built, is_tree, pieces_of, depth and cell_path of eyeorder/trees.py."""

import random
import unittest
from itertools import permutations, product

from eyeorder import trees
from eyeorder.errors import BadOrder, BadPlace, BadPlan, BadTree
from eyeorder.trees import built, cell_path, depth, is_tree, pieces_of
from tests.oracles import (
    built_by_the_words, is_tree_by_the_words, mirrored, nodes, pieces_by_the_words, point, random_plan,
    random_tree, turned, worth,
)
from tests.promises import DEEP, ODD, P, PromiseCase, variants, walls_of

BIG = 999999999999
T = ((-1, 0, 2), (("a", (2, -1, 1), (2, 1, 1)),), None,
     ((-1, 0, 4), (("b", (4, -3, 1), (4, 3, 1)),), None, None))

# Walls that end on another one, on its line beyond its ends, and that go through the line of another one.
TOUCHING = walls_of((0, 0, 6, 0), (2, 0, 2, 3), (8, -2, 8, 2), (9, 0, 9, 4), (7, 5, 7, -5))
# Walls on one line, of both directions, and one that does not lie on it.
ROW = walls_of((4, 0, 2, 0), (-3, 0, -1, 0), (2, 0, -1, 0), (0, 1, 0, 5), (5, 0, 7, 0))
# A wall that the lines of the others cut several times, also at places with w above 1.
CUT = walls_of((-6, 0, 6, 1), (-4, 3, -3, 5), (0, 3, 0, 5), (3, 3, 4, 6))


def names_of(plan):
    return tuple(name for name, _, _ in plan)


def orders(plan):
    return permutations(names_of(plan))


class TreeCase(PromiseCase):
    def assert_tree(self, plan, tree):
        self.assertTrue(is_tree_by_the_words(plan, tree), "the test itself is wrong")
        self.assert_same(is_tree(plan, tree), True)

    def assert_no_tree(self, plan, thing):
        self.assertFalse(is_tree_by_the_words(plan, thing), "the test itself is wrong")
        self.assert_same(is_tree(plan, thing), False)


class DocumentExamples(TreeCase):
    def test_the_two_walls(self):
        tree = built(P, ("a", "b"))
        self.assert_same(
            [tree, is_tree(P, tree), is_tree(P, built(P, ("b", "a"))), is_tree(P, None), pieces_of(P, tree),
             depth(P, tree), cell_path(P, tree, (3, 0, 1)), cell_path(P, tree, (2, 9, 1))],
            [T, True, True, False, (("a", (2, -1, 1), (2, 1, 1)), ("b", (4, -3, 1), (4, 3, 1))), 2,
             ("right", "left"), None],
        )


class Interface(PromiseCase):
    def test_defined_in_this_file(self):
        for name in ["built", "is_tree", "pieces_of", "depth", "cell_path"]:
            self.assertEqual(getattr(trees, name).__module__, "eyeorder.trees")
            self.assertEqual(getattr(trees, name).__name__, name)

    def test_parameters_by_name(self):
        self.assert_same(built(order=("a", "b"), plan=P), T)
        self.assert_same(is_tree(thing=T, plan=P), True)
        self.assert_same(pieces_of(tree=T, plan=P), pieces_of(P, T))
        self.assert_same(depth(tree=T, plan=P), 2)
        self.assert_same(cell_path(p=(3, 0, 1), tree=T, plan=P), ("right", "left"))


class Built(TreeCase):
    def assert_built(self, plan):
        for order in orders(plan):
            self.assert_same(built(plan, order), built_by_the_words(plan, order))

    def test_the_empty_plan(self):
        self.assert_same(built((), ()), None)

    def test_one_wall_keeps_its_direction(self):
        self.assert_same(built(walls_of((0, 0, 1, 0)), ("a",)),
                         ((0, 1, 0), (("a", (0, 0, 1), (1, 0, 1)),), None, None))
        self.assert_same(built(walls_of((2, 2, 0, -2)), ("a",)),
                         ((2, -1, -2), (("a", (2, 2, 1), (0, -2, 1)),), None, None))

    def test_the_other_order(self):
        first = ((-1, 0, 2), (("a", (2, -1, 1), (2, 1, 1)),), None, None)
        self.assert_same(built(P, ("b", "a")), ((-1, 0, 4), (("b", (4, -3, 1), (4, 3, 1)),), first, None))

    def test_a_cut_at_a_place_with_w_above_1(self):
        plan = walls_of((1, 3, 1, 5), (0, 0, 3, 1))
        left = ((-1, 3, 0), (("b", (0, 0, 1), (3, 1, 3)),), None, None)
        right = ((-1, 3, 0), (("b", (3, 1, 3), (3, 1, 1)),), None, None)
        self.assert_same(built(plan, ("a", "b")), ((-1, 0, 1), (("a", (1, 3, 1), (1, 5, 1)),), left, right))

    def test_a_cut_of_a_wall_in_the_other_direction(self):
        plan = walls_of((1, 3, 1, 5), (3, 1, 0, 0))
        left = ((1, -3, 0), (("b", (3, 1, 3), (0, 0, 1)),), None, None)
        right = ((1, -3, 0), (("b", (3, 1, 1), (3, 1, 3)),), None, None)
        self.assert_same(built(plan, ("a", "b")), ((-1, 0, 1), (("a", (1, 3, 1), (1, 5, 1)),), left, right))

    def test_an_end_on_the_line_of_another_wall(self):
        plan = walls_of((0, 0, 1, 0), (5, 0, 6, 3), (5, 0, 6, -3), (7, 2, 8, 0))
        tree = built(plan, ("a", "b", "c", "d"))
        self.assert_same(tree[1], (("a", (0, 0, 1), (1, 0, 1)),))
        self.assert_same([tree[2][1], tree[3][1]],
                         [(("b", (5, 0, 1), (6, 3, 1)),), (("c", (5, 0, 1), (6, -3, 1)),)])
        self.assert_same(pieces_of(plan, tree), tuple(
            (name, (*p, 1), (*q, 1)) for name, p, q in plan))

    def test_pieces_of_one_line_are_sorted_by_the_plan(self):
        row = walls_of((4, 0, 2, 0), (-3, 0, -1, 0), (2, 0, -1, 0))
        self.assert_same(built(row, ("b", "c", "a"))[:2], ((0, 1, 0), (
            ("a", (4, 0, 1), (2, 0, 1)), ("b", (-3, 0, 1), (-1, 0, 1)), ("c", (2, 0, 1), (-1, 0, 1)))))
        self.assert_same(built(row, ("c", "b", "a"))[0], (0, -1, 0))

    def test_every_order_of_walls_that_touch(self):
        for plan in (TOUCHING, ROW, CUT, TOUCHING[:2], TOUCHING[2:], ROW[1:4]):
            self.assert_built(plan)

    def test_every_order_of_random_plans(self):
        chance = random.Random(31)
        for k in range(60):
            self.assert_built(random_plan(chance, 2 + k % 3, chance.choice([2, 3, 5, 60])))

    def test_nine_walls(self):
        chance = random.Random(32)
        for size in (4, 9, 60):
            plan = random_plan(chance, 9, size)
            order = names_of(plan)
            for _ in range(6):
                order = tuple(chance.sample(order, 9))
                self.assert_same(built(plan, order), built_by_the_words(plan, order))

    def test_it_is_a_tree_of_the_plan(self):
        for plan in (TOUCHING, ROW, CUT):
            for order in list(orders(plan))[::7]:
                self.assert_tree(plan, built(plan, order))


class Orders(PromiseCase):
    def test_a_bad_plan(self):
        for plan in [[P[0], P[1]], (P[0], P[0]), None, "a", walls_of((0, 0, 2, 0), (1, -1, 1, 1))]:
            self.assert_error(BadPlan, plan, built, plan, ("a", "b"))
            self.assert_error(BadPlan, plan, built, plan, None)

    def test_bad_orders(self):
        for order in [(), ("a",), ("b",), ("a", "a"), ("a", "b", "b"), ("a", "b", "c"), ("a", "c"), ("ab",),
                      ["a", "b"], "ab", None, ("a", 1), ("a", None), (True, False), (["a"], "b"), ("a", ("b",)),
                      ("A", "b"), {"a": 0, "b": 1}, ("b", "a", "a"), ((), ()), ("a", {}), ("", "a", "b")]:
            self.assert_error(BadOrder, order, built, P, order)

    def test_odd_orders(self):
        for order in ODD:
            self.assert_error(BadOrder, order, built, P, order)
            if order != ():
                self.assert_error(BadOrder, order, built, (), order)
        for order in variants(("a", "b")):
            if order not in [("a", "b"), ("b", "a")]:
                self.assert_error(BadOrder, order, built, P, order)


class Trees(TreeCase):
    def test_trees_of_every_order(self):
        for plan in (P, TOUCHING[:3], ROW[:4], CUT):
            for order in orders(plan):
                tree = built(plan, order)
                self.assert_tree(plan, tree)
                self.assert_tree(plan, mirrored(tree))

    def test_the_empty_plan(self):
        self.assert_tree((), None)
        self.assert_tree((), ((1, 0, 0), (), None, None))
        self.assert_tree((), ((1, 0, 0), (), ((1, 0, 0), (), None, None), ((0, 1, 7), (), None, None)))
        self.assert_no_tree((), ())
        self.assert_no_tree((), ((1, 0, 0), None, None, None))
        self.assert_no_tree((), T)

    def test_further_lines(self):
        below = ((5, 1, BIG), (), T, None)
        self.assert_tree(P, below)
        self.assert_tree(P, ((-1, 0, 2), T[1], ((0, 1, 0), (), None, ((1, 0, 0), (), None, None)), T[3]))
        self.assert_tree(P, ((5, 1, BIG), (), below, ((1, 0, 0), (), None, None)))

    def test_a_line_through_the_inside_cuts_the_pieces(self):
        upper = ((-1, 0, 2), (("a", (2, 0, 1), (2, 1, 1)),), None,
                 ((-1, 0, 4), (("b", (4, 0, 1), (4, 3, 1)),), None, None))
        lower = ((-1, 0, 4), (("b", (4, -3, 1), (4, 0, 1)),),
                 ((1, 0, -2), (("a", (2, -1, 1), (2, 0, 1)),), None, None), None)
        self.assert_tree(P, ((0, 1, 0), (), upper, lower))
        self.assert_no_tree(P, ((0, 1, 0), (), T, None))
        self.assert_no_tree(P, ((0, 1, 0), (), lower, upper))

    def test_a_line_through_an_end_cuts_nothing(self):
        plan = P[:1]
        leaf = ((-1, 0, 2), (("a", (2, -1, 1), (2, 1, 1)),), None, None)
        self.assert_tree(plan, ((0, 1, -1), (), None, leaf))
        self.assert_tree(plan, ((0, 1, 1), (), leaf, None))
        self.assert_tree(plan, ((1, 1, -3), (), None, leaf))
        self.assert_no_tree(plan, ((0, 1, -1), (), leaf, None))
        self.assert_no_tree(plan, ((0, 1, -1), (("a", (2, 1, 1), (2, 1, 1)),), None, leaf))

    def test_a_line_again_below_itself(self):
        again = ((-1, 0, 2), (), None, None)
        self.assert_tree(P, (T[0], T[1], again, T[3]))
        self.assert_no_tree(P, (T[0], (), T, None))
        self.assert_no_tree(P, (T[0], T[1], (T[0], T[1], None, None), T[3]))

    def test_the_pieces_of_a_node_are_in_the_order_of_the_plan(self):
        row = ROW[:3]
        pieces = tuple((name, (*p, 1), (*q, 1)) for name, p, q in row)
        for line in ((0, 1, 0), (0, -1, 0)):
            for order in permutations(pieces):
                self.assert_same(is_tree(row, (line, order, None, None)), order == pieces)

    def test_pieces_that_are_wrong(self):
        a, b = ("a", (2, -1, 1), (2, 1, 1)), ("b", (4, -3, 1), (4, 3, 1))
        low, high = ("a", (2, -1, 1), (2, 0, 1)), ("a", (2, 0, 1), (2, 1, 1))

        def tree(ones, others):
            return (T[0], ones, None, (T[3][0], others, None, None))

        self.assert_tree(P, tree((a,), (b,)))
        for ones, others in [((), (b,)), ((a,), ()), ((a, a), (b,)), ((low, high), (b,)), ((low,), (b,)),
                             ((("c", *a[1:]),), (b,)), ((("b", *a[1:]),), (b,)), ((("a", a[2], a[1]),), (b,)),
                             ((b,), (a,)), ((a, b), ()), ((), (a, b)), ((a,), (b, b)), ([a], (b,)),
                             ((a,), ([*b],)), ((a,), (("b", [4, -3, 1], (4, 3, 1)),)),
                             ((("a", (4, -2, 2), (2, 1, 1)),), (b,)), ((("a", (2, -1), (2, 1)),), (b,)),
                             ((a + (None,),), (b,)), ((a[:2],), (b,)), (None, (b,)), (a, b),
                             ((("a", (2, -1, True), (2, 1, 1)),), (b,)), ((("a", (2, -1, 1), (2, True, 1)),), (b,))]:
            self.assert_no_tree(P, tree(ones, others))

    def test_lines_that_are_wrong(self):
        for line in [(1, 0, -2), (-2, 0, 4), (0, 0, 1), (0, 0, 0), (-1, 0, 3), (-1, 0), (-1, 0, 2, 0), [-1, 0, 2],
                     (-1, False, 2), (-True, 0, 2), None, "line", (-1, "0", 2), (-1, 0, None), (True, 0, -2)]:
            thing = (line, *T[1:])
            self.assert_same(is_tree(P, thing), repr(line) == "(-1, 0, 2)")
            if line != (1, 0, -2):
                self.assert_same(is_tree(P, (line, T[1], T[3], T[2])), False)
        self.assert_tree(P, ((1, 0, -2), T[1], T[3], T[2]))
        self.assert_no_tree(P, (T[0], T[1], T[3], T[2]))
        self.assert_no_tree(P[:1], ((True, 0, -2), T[1], None, None))

    def test_other_forms(self):
        for thing in [None, (), T[:3], (*T, None), list(T), (T[0], T[1], (), T[3]), (T[0], T[1], False, T[3]),
                      (T[0], T[1], None, None), (T[0], T[1], T[3], T[3]), (T, T, T, T), (T,), "tree", 0, {},
                      {0: T[0], 1: T[1], 2: T[2], 3: T[3]}, DEEP, T[3], (T[0], T[1], None, list(T[3]))]:
            self.assert_no_tree(P, thing)

    def test_the_tree_of_another_plan(self):
        renamed = (("c", *P[0][1:]), P[1])
        moved = (("a", (2, -1), (2, 2)), P[1])
        for other in (renamed, moved, P[:1], P[1:], P + (("c", (0, 9), (1, 9)),), ()):
            self.assert_no_tree(other, T)
            self.assert_no_tree(P, built(other, names_of(other)))
        self.assert_tree((P[1], P[0]), T)

    def test_any_value(self):
        for thing in ODD:
            self.assert_same(is_tree(P, thing), False)
            self.assert_same(is_tree((), thing), thing is None)
        for thing in [T, ((0, 1, 0), (), None, None)]:
            for plan in (P, ()):
                for other in variants(thing):
                    self.assert_same(is_tree(plan, other), is_tree_by_the_words(plan, other))

    def test_the_value_is_left_as_it_was(self):
        thing = [list(T[0]), [list(T[1][0])], None, [list(T[3][0]), [], {}, None]]
        before = repr(thing)
        for other in (thing, tuple(thing), (T[0], thing[1], None, thing[3])):
            self.assert_same(is_tree(P, other), False)
        self.assertEqual(repr(thing), before)

    def test_random_trees(self):
        chance = random.Random(33)
        for k in range(150):
            plan = random_plan(chance, k % 6, chance.choice([2, 4, 60]))
            tree = random_tree(chance, plan, chance.randint(0, 5), 5)
            self.assert_tree(plan, tree)
            self.assert_tree(plan, mirrored(tree, chance))
            self.assert_no_tree(plan + (("new", (70, 70), (70, 71)),), tree)

    def test_random_trees_with_parts_exchanged(self):
        chance = random.Random(34)
        hit = 0
        for k in range(60):
            plan = random_plan(chance, 1 + k % 4, 3)
            tree = random_tree(chance, plan, 2, 3)
            other = random_tree(chance, plan, 1, 3)
            for thing in exchanges(tree, other):
                found = is_tree_by_the_words(plan, thing)
                hit += found
                self.assert_same(is_tree(plan, thing), found)
        self.assertGreater(hit, 20)

    def test_a_tree_of_forty_nodes_one_below_the_other(self):
        tree = built(P, ("a", "b"))
        for k in range(38):
            tree = ((1, 0, 20 + k), (), tree, None)
        self.assertEqual(nodes(tree), 40)
        self.assert_tree(P, tree)
        self.assert_same(depth(P, tree), 40)
        self.assert_same(pieces_of(P, tree), pieces_of(P, T))
        self.assert_same(cell_path(P, tree, (3, 0, 1)), ("left",) * 38 + ("right", "left"))

    def test_only_a_bad_plan_is_refused(self):
        for plan in [[], None, 1, list(P), (P[0], P[0])]:
            self.assert_error(BadPlan, plan, is_tree, plan, T)
            self.assert_error(BadPlan, plan, is_tree, plan, None)


def exchanges(tree, other):
    """The tree with each of its subtrees, pieces and lines once replaced by those of another one."""
    yield other
    if tree is None:
        return
    line, pieces, left, right = tree
    yield from [(turned(line), pieces, left, right), (turned(line), pieces, right, left), (line, pieces, right, left)]
    if other is not None:
        yield from [(other[0], *tree[1:]), (line, other[1], left, right), (line, pieces + other[1], left, right)]
    for k in range(len(pieces)):
        yield (line, pieces[:k] + pieces[k + 1:], left, right)
        yield (line, pieces[:k] + pieces[k:k + 1] * 2 + pieces[k + 1:], left, right)
    for sub in exchanges(left, other):
        yield (line, pieces, sub, right)
    for sub in exchanges(right, other):
        yield (line, pieces, left, sub)


class Pieces(TreeCase):
    def test_none(self):
        self.assert_same(pieces_of((), None), ())
        self.assert_same(pieces_of((), ((1, 0, 0), (), None, None)), ())

    def test_sorted_by_the_plan_then_along_the_wall(self):
        plan = (("z", (6, 1), (-6, 0)), ("b", (0, 3), (0, 5)), ("a", (3, 3), (3, 5)))
        for order in orders(plan):
            found = pieces_of(plan, built(plan, order))
            self.assert_same([piece[0] for piece in found], sorted([piece[0] for piece in found], key="zba".index))
        self.assert_same(pieces_of(plan, built(plan, ("a", "b", "z"))), (
            ("z", (6, 1, 1), (12, 3, 4)), ("z", (12, 3, 4), (0, 1, 2)), ("z", (0, 1, 2), (-6, 0, 1)),
            ("b", (0, 3, 1), (0, 5, 1)), ("a", (3, 3, 1), (3, 5, 1))))

    def test_pieces_follow_one_another(self):
        chance = random.Random(35)
        for k in range(120):
            plan = random_plan(chance, 1 + k % 5, chance.choice([3, 6, 60]))
            tree = random_tree(chance, plan, chance.randint(0, 6), 6)
            found = pieces_of(plan, tree)
            self.assert_same(found, pieces_by_the_words(plan, tree))
            for name, p, q in plan:
                own = [piece for piece in found if piece[0] == name]
                places = [(*p, 1)] + [piece[2] for piece in own]
                self.assert_same([piece[1] for piece in own], places[:-1])
                self.assert_same(places[-1], (*q, 1))


class Depths(TreeCase):
    def test_depths(self):
        self.assert_same(depth((), None), 0)
        self.assert_same(depth((), ((1, 0, 0), (), None, None)), 1)
        self.assert_same(depth(P, built(P, ("b", "a"))), 2)
        self.assert_same(depth(P, ((0, 1, 9), (), mirrored(T), None)), 3)
        self.assert_same(depth(P, ((0, 1, -9), (), ((0, 1, 0), (), None, None), T)), 3)
        self.assert_same(depth((), ((0, 1, 0), (), None, ((1, 0, 0), (), ((1, 0, 0), (), None, None), None))), 3)

    def test_against_the_paths_of_places(self):
        chance = random.Random(36)
        for k in range(40):
            plan = random_plan(chance, k % 5, 4)
            tree = random_tree(chance, plan, 4, 4)
            self.assert_same(depth(plan, tree), max([len(way) for way in ways(tree)]))


def ways(tree):
    if tree is None:
        return [()]
    return [("l", *way) for way in ways(tree[2])] + [("r", *way) for way in ways(tree[3])]


def path_by_the_words(tree, place):
    if tree is None:
        return ()
    found = worth(tree[0], point(place))
    if found == 0:
        return None
    rest = path_by_the_words(tree[2] if found > 0 else tree[3], place)
    return None if rest is None else ("left" if found > 0 else "right", *rest)


class Paths(TreeCase):
    def test_none(self):
        self.assert_same(cell_path((), None, (0, 0, 1)), ())

    def test_sides(self):
        self.assert_same(cell_path(P, T, (0, 0, 1)), ("left",))
        self.assert_same(cell_path(P, T, (3, 7, 2)), ("left",))
        self.assert_same(cell_path(P, T, (5, 7, 2)), ("right", "left"))
        self.assert_same(cell_path(P, T, (5, 0, 1)), ("right", "right"))
        self.assert_same(cell_path(P, mirrored(T), (5, 7, 2)), ("left", "right"))

    def test_on_lines(self):
        for p in [(2, 9, 1), (2, 0, 1), (2, 1, 1), (4, 8, 1), (4, 3, 1), (8, 1, 2), (12, -70, 3), (4, 1, 2)]:
            self.assert_same(cell_path(P, T, p), None)

    def test_on_a_line_that_is_elsewhere(self):
        tree = ((0, 1, 0), (), ((1, 0, 0), (), None, None), ((1, 0, -1), (), None, None))
        self.assert_same(cell_path((), tree, (1, 2, 1)), ("left", "left"))
        self.assert_same(cell_path((), tree, (0, -2, 1)), ("right", "right"))
        self.assert_same(cell_path((), tree, (0, 2, 1)), None)
        self.assert_same(cell_path((), tree, (1, -2, 1)), None)
        self.assert_same(cell_path((), tree, (5, 0, 1)), None)

    def test_random(self):
        chance = random.Random(37)
        for k in range(40):
            plan = random_plan(chance, k % 5, 3)
            tree = random_tree(chance, plan, 4, 3)
            for x, y, w in product(range(-4, 5, 2), range(-4, 5), (1, 3)):
                if w == 1 or x % 3 or y % 3:
                    self.assert_same(cell_path(plan, tree, (x, y, w)), path_by_the_words(tree, (x, y, w)))

    def test_bad_places(self):
        for p in [None, (0, 0), (0, 0, 0), (0, 0, 2), (2, 4, 6), (1, 1, -1), [0, 0, 1], (0, 0, True), (True, 0, 1),
                  (0, 0, 1, 1), "001", (0, "0", 1), (0, None, 1), ((0, 0, 1),)]:
            self.assert_error(BadPlace, p, cell_path, P, T, p)
            self.assert_error(BadPlace, p, cell_path, (), None, p)
        for p in variants((3, 0, 1)):
            if not (type(p) is tuple and len(p) == 3 and all(type(n) is int for n in p) and p[2] > 0):
                self.assert_error(BadPlace, p, cell_path, P, T, p)


class Refusals(PromiseCase):
    CALLS = [(pieces_of, ()), (depth, ()), (cell_path, ((0, 0, 1),)), (cell_path, (None,))]

    def test_bad_plans_come_first(self):
        for plan in [list(P), None, (P[0], P[0]), "", walls_of((0, 0, 2, 0), (1, -1, 1, 1))]:
            for function, more in self.CALLS:
                self.assert_error(BadPlan, plan, function, plan, T, *more)
                self.assert_error(BadPlan, plan, function, plan, 0, *more)

    def test_bad_trees_come_next(self):
        for tree in [None, (), list(T), T[3], (T[0], T[1], T[3], T[2]), ((1, 0, -2), *T[1:]), "tree", DEEP]:
            for function, more in self.CALLS:
                self.assert_error(BadTree, tree, function, P, tree, *more)
        for tree in ODD:
            if tree is not None:
                for function, more in self.CALLS:
                    self.assert_error(BadTree, tree, function, (), tree, *more)


if __name__ == "__main__":
    unittest.main()
