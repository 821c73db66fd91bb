"""[9.1] to [9.3], and put_in and taken_out of eyeorder/changes.py."""

import random
import time
import unittest

from eyeorder import changes
from eyeorder.cells import openings
from eyeorder.changes import put_in, taken_out
from eyeorder.errors import BadName, BadPlan, BadTree, BadWall
from eyeorder.trees import built, is_tree, pieces_of
from eyeorder.views import view, view_by_walk
from eyeorder.walks import judge_pieces, walk
from tests.oracles import (
    further, is_tree_by_the_words, line_of, mirrored, nodes, part, point, random_plan, random_tree, view_by_the_words,
    worth,
)
from tests.promises import DEEP, ODD, P, PromiseCase, first_fault, variants, walls_of
from tests.room_oracles import is_box_by_the_words, openings_by_the_words
from tests.test_cells import BAD_PLANS, BAD_TREES, BIG, T, node
from tests.test_walks import random_eye


def put_by_the_words(tree, wall, above=()):
    """The tree into which a wall is put, by the part of the wall that is on the told sides of the lines above."""
    piece = part(wall, above)
    if tree is None:
        return None if piece is None else (line_of(point(piece[1]), point(piece[2])), (piece,), None, None)
    line, own, left, right = tree
    if piece is not None and worth(line, point(piece[1])) == worth(line, point(piece[2])) == 0:
        return (line, own + (piece,), left, right)
    return (line, own, put_by_the_words(left, wall, (*above, (line, 1))),
            put_by_the_words(right, wall, (*above, (line, -1))))


def cleared_by_the_words(tree, name):
    if tree is None:
        return None
    line, own, left, right = tree
    return (line, tuple(piece for piece in own if piece[0] != name),
            cleared_by_the_words(left, name), cleared_by_the_words(right, name))


def is_addition_by_the_words(plan, thing):
    """Whether any value is a wall with which the plan, this wall at its end, is a plan."""
    if type(thing) is not tuple or len(thing) != 3 or type(thing[0]) is not str or not 1 <= len(thing[0]) <= 8:
        return False
    name, p, q = thing
    letters = "abcdefghijklmnopqrstuvwxyz"
    if name[0] not in letters or not set(name) <= set(letters + "0123456789") or name in [wall[0] for wall in plan]:
        return False
    if not all(type(end) is tuple and len(end) == 2 and all(type(n) is int for n in end) for end in (p, q)):
        return False
    return p != q and first_fault(plan + (thing,)) is None


def random_addition(chance, plan, size, name):
    """A wall with which the plan is one, often one that touches another wall or lies on the line of one."""
    while True:
        p, q = [(chance.randint(-size, size), chance.randint(-size, size)) for _ in range(2)]
        if plan and chance.random() < 0.4:
            p = chance.choice(chance.choice(plan)[1:])
        if plan and chance.random() < 0.3:
            _, (x, y), (u, v) = chance.choice(plan)
            k, m = chance.sample(range(-1, 4), 2)
            p, q = [(x + t * (u - x), y + t * (v - y)) for t in (k, m)]
        if p != q and max(abs(n) for n in p + q) <= 60 and first_fault(plan + ((name, p, q),)) is None:
            return (name, p, q)


class ChangeCase(PromiseCase):
    def assert_put(self, plan, tree, wall, wanted):
        self.assert_same(put_by_the_words(tree, wall), wanted)
        self.assert_same(put_in(plan, tree, wall), (plan + (wall,), wanted))
        self.assertTrue(is_tree_by_the_words(plan + (wall,), wanted))
        self.assert_same(is_tree(plan + (wall,), wanted), True)

    def assert_taken(self, plan, tree, name, wanted):
        rest = tuple(wall for wall in plan if wall[0] != name)
        self.assert_same(cleared_by_the_words(tree, name), wanted)
        self.assert_same(taken_out(plan, tree, name), (rest, wanted))
        self.assertTrue(is_tree_by_the_words(rest, wanted))
        self.assert_same(is_tree(rest, wanted), True)


class DocumentExamples(ChangeCase):
    def test_the_two_walls(self):
        plan, tree = put_in(P, built(P, ("a", "b")), ("c", (0, 4), (6, 4)))
        self.assert_same(
            [tree[2], is_tree(plan, tree), taken_out(plan, tree, "b")[0], is_tree(*taken_out(plan, tree, "b"))],
            [((0, 1, -4), (("c", (0, 4, 1), (2, 4, 1)),), None, None), True,
             (("a", (2, -1), (2, 1)), ("c", (0, 4), (6, 4))), True])


class Interface(PromiseCase):
    def test_defined_in_this_file(self):
        for name in ["put_in", "taken_out", "House"]:
            self.assertEqual(getattr(changes, name).__module__, "eyeorder.changes")
            self.assertEqual(getattr(changes, name).__name__, name)

    def test_parameters_by_name(self):
        wall = ("c", (0, 4), (6, 4))
        self.assert_same(put_in(wall=wall, tree=T, plan=P), put_in(P, T, wall))
        self.assert_same(taken_out(name="a", tree=T, plan=P), taken_out(P, T, "a"))


class PuttingIn(ChangeCase):
    def test_into_none(self):
        self.assert_put((), None, ("a", (0, 0), (2, 4)), ((-2, 1, 0), (("a", (0, 0, 1), (2, 4, 1)),), None, None))
        self.assert_put((), None, ("a", (2, 4), (0, 0)), ((2, -1, 0), (("a", (2, 4, 1), (0, 0, 1)),), None, None))

    def test_into_nodes_without_pieces(self):
        cross = node((0, 1, 0), node((1, 0, 0)), node((1, 0, 0)))
        leaf = ((-1, 1, -1), (("a", (1, 2, 1), (3, 4, 1)),), None, None)
        self.assert_put((), cross, ("a", (1, 2), (3, 4)), node((0, 1, 0), node((1, 0, 0), leaf), node((1, 0, 0))))
        self.assert_put((), cross, ("a", (2, 0), (3, 0)), ((0, 1, 0), (("a", (2, 0, 1), (3, 0, 1)),), *cross[2:]))
        self.assert_put((), cross, ("a", (0, 2), (0, -1)), node(
            (0, 1, 0), node((1, 0, 0), pieces=(("a", (0, 2, 1), (0, 0, 1)),)),
            node((1, 0, 0), pieces=(("a", (0, 0, 1), (0, -1, 1)),))))

    def test_on_the_line_of_a_node_next_to_others(self):
        a, b = ("a", (2, -1, 1), (2, 1, 1)), ("b", (4, -3, 1), (4, 3, 1))
        for name, p, q in [("c", (2, 1), (2, 5)), ("c", (2, 5), (2, 1)), ("c", (2, -1), (2, -4)),
                           ("aa", (2, 7), (2, 9)), ("a1", (2, -9), (2, -8))]:
            self.assert_put(P, T, (name, p, q), (T[0], (a, (name, (*p, 1), (*q, 1))), *T[2:]))
        self.assert_put(P, T, ("a0", (4, -3), (4, -7)), (T[0], (a,), None, (
            T[3][0], (b, ("a0", (4, -3, 1), (4, -7, 1))), None, None)))

    def test_on_the_line_of_a_node_in_which_it_is_cut(self):
        # Two nodes of the same line, on both sides of the one above.
        tree = node((1, 0, 0), node((0, 1, 0)), node((0, -1, 0)))
        self.assert_put((), tree, ("a", (-2, 0), (3, 0)), node(
            (1, 0, 0), node((0, 1, 0), pieces=(("a", (0, 0, 1), (3, 0, 1)),)),
            node((0, -1, 0), pieces=(("a", (-2, 0, 1), (0, 0, 1)),))))

    def test_a_wall_that_only_touches_a_line_at_an_end(self):
        self.assert_put(P, T, ("c", (2, 0), (0, 0)), (T[0], T[1], ((0, -1, 0), (
            ("c", (2, 0, 1), (0, 0, 1)),), None, None), T[3]))
        found = (T[0], T[1], None, (T[3][0], T[3][1], ((0, 1, -1), (("c", (2, 1, 1), (4, 1, 1)),), None, None), None))
        self.assert_put(P, T, ("c", (2, 1), (4, 1)), found)
        self.assert_put(P, T, ("c", (5, 5), (4, 9)), (T[0], T[1], None, (T[3][0], T[3][1], None, (
            (-4, -1, 25), (("c", (5, 5, 1), (4, 9, 1)),), None, None))))

    def test_a_wall_that_is_cut_several_times(self):
        plan = walls_of((1, 3, 1, 5), (2, 3, 2, 5), (4, 3, 4, 5))
        tree = built(plan, ("b", "a", "c"))
        whole = ("d", (0, 0), (5, 1))
        plan_after, found = put_in(plan, tree, whole)
        self.assert_put(plan, tree, whole, found)
        self.assert_same([piece[1:] for piece in pieces_of(plan_after, found) if piece[0] == "d"], [
            ((0, 0, 1), (5, 1, 5)), ((5, 1, 5), (10, 2, 5)), ((10, 2, 5), (20, 4, 5)), ((20, 4, 5), (5, 1, 1))])
        back = ("d", (5, 1), (0, 0))
        plan_after, found = put_in(plan, tree, back)
        self.assert_put(plan, tree, back, found)
        self.assert_same([piece[1:] for piece in pieces_of(plan_after, found) if piece[0] == "d"], [
            ((5, 1, 1), (20, 4, 5)), ((20, 4, 5), (10, 2, 5)), ((10, 2, 5), (5, 1, 5)), ((5, 1, 5), (0, 0, 1))])

    def test_what_comes_to_none_is_one_piece(self):
        # The lines go past the wall, so it comes down whole; where one cuts it, each part comes to its own None.
        tree = node((0, 1, 9), node((1, 0, 9), node((1, 0, 0))))
        self.assert_put((), tree, ("a", (1, 0), (5, 5)), node((0, 1, 9), node((1, 0, 9), node(
            (1, 0, 0), ((-5, 4, 5), (("a", (1, 0, 1), (5, 5, 1)),), None, None)))))
        self.assertEqual(nodes(put_in((), tree, ("a", (-1, 0), (5, 5)))[1]), 5)

    def test_below_a_line_that_is_there_twice(self):
        tree = node((1, 0, 0), node((1, 0, 0)), node((-1, 0, 0)))
        for wall in [("a", (0, 0), (0, 5)), ("a", (-1, 0), (3, 1)), ("a", (0, 0), (3, 1)), ("a", (0, 0), (-3, 1))]:
            self.assert_put((), tree, wall, put_by_the_words(tree, wall))

    def test_the_wall_is_at_the_end_of_the_plan(self):
        plan, tree = put_in(P[::-1], T, ("a0", (9, 9), (8, 8)))
        self.assert_same(plan, (P[1], P[0], ("a0", (9, 9), (8, 8))))
        self.assert_same(pieces_of(plan, tree)[-1][0], "a0")

    def test_random(self):
        chance = random.Random(91)
        for k in range(250):
            plan = random_plan(chance, k % 7, chance.choice([2, 4, 9, 60]))
            tree = random_tree(chance, plan, chance.randint(0, 5), 6)
            wall = random_addition(chance, plan, chance.choice([3, 9, 60]), "new")
            for one in (tree, mirrored(tree, chance)):
                self.assert_put(plan, one, wall, put_by_the_words(one, wall))

    def test_bad_walls(self):
        for wall in [("a", (0, 4), (6, 4)), ("b", (9, 9), (8, 8)), ("c", (0, 0), (4, 0)), ("c", (2, 0), (2, 4)),
                     ("c", (2, -1), (2, 1)), ("c", (2, 1), (2, -1)), ("c", (2, -2), (2, 2)), ("c", (3, 0), (5, 0)),
                     ("c", (9, 9), (9, 9)), ("C", (9, 9), (8, 8)), ("", (9, 9), (8, 8)), ("1c", (9, 9), (8, 8)),
                     ("c" * 9, (9, 9), (8, 8)), ("c_d", (9, 9), (8, 8)), ("c", (9, True), (8, 8)),
                     ("c", [9, 9], (8, 8)),
                     ("c", (9, 9, 1), (8, 8, 1)), ("c", (9, 9), (8,)), ("c", (9, 9)), ("c", (9, 9), (8, 8), None),
                     ["c", (9, 9), (8, 8)], (("c", (9, 9), (8, 8)),), None, "c", 5, {}, DEEP, (1, (9, 9), (8, 8)),
                     (None, (9, 9), (8, 8)), ("c", "99", (8, 8)), {"c": ((9, 9), (8, 8))}]:
            self.assertFalse(is_addition_by_the_words(P, wall), "the test itself is wrong")
            self.assert_error(BadWall, wall, put_in, P, T, wall)
        for wall in ODD:
            if is_addition_by_the_words((), wall):
                self.assert_put((), None, wall, put_by_the_words(None, wall))
            else:
                self.assert_error(BadWall, wall, put_in, (), None, wall)
                self.assert_error(BadWall, wall, put_in, P, T, wall)

    def test_changed_walls(self):
        for wall in variants(("c", (0, 4), (6, 4))):
            if is_addition_by_the_words(P, wall):
                self.assert_put(P, T, wall, put_by_the_words(T, wall))
            else:
                self.assert_error(BadWall, wall, put_in, P, T, wall)

    def test_walls_that_only_touch_are_good(self):
        for p, q in [((2, 0), (4, 0)), ((2, 1), (4, 3)), ((2, 1), (2, 3)), ((0, 0), (2, 0)), ((4, 3), (2, -1)),
                     ((2, -1), (5, -7)), ((1, 1), (3, 1))]:
            self.assertTrue(is_addition_by_the_words(P, ("c", p, q)), "the test itself is wrong")
            self.assert_put(P, T, ("c", p, q), put_by_the_words(T, ("c", p, q)))


class TakingOut(ChangeCase):
    def test_nodes_and_lines_stay(self):
        self.assert_taken(P, T, "a", (T[0], (), None, T[3]))
        self.assert_taken(P, T, "b", (T[0], T[1], None, (T[3][0], (), None, None)))
        plan, tree = taken_out(P, T, "a")
        self.assert_taken(plan, tree, "b", (T[0], (), None, (T[3][0], (), None, None)))

    def test_all_pieces_and_no_others(self):
        plan = walls_of((-6, 0, 6, 1), (-4, 3, -3, 5), (0, 3, 0, 5), (3, 3, 4, 6))
        row = walls_of((4, 0, 2, 0), (-3, 0, -1, 0), (2, 0, -1, 0))
        for walls in (plan, row):
            names = [wall[0] for wall in walls]
            for order in (names, names[::-1], names[1:] + names[:1]):
                tree = built(walls, tuple(order))
                for name in names:
                    self.assert_taken(walls, tree, name, cleared_by_the_words(tree, name))
        self.assert_taken(row, built(row, ("a", "b", "c")), "b", ((0, -1, 0), (
            ("a", (4, 0, 1), (2, 0, 1)), ("c", (2, 0, 1), (-1, 0, 1))), None, None))

    def test_the_last_one(self):
        self.assert_taken(P[:1], built(P[:1], ("a",)), "a", (T[0], (), None, None))

    def test_random(self):
        chance = random.Random(92)
        for k in range(120):
            plan = random_plan(chance, 1 + k % 7, chance.choice([2, 4, 60]))
            tree = random_tree(chance, plan, chance.randint(0, 5), 6)
            name = chance.choice(plan)[0]
            self.assert_taken(plan, tree, name, cleared_by_the_words(tree, name))
            self.assertEqual(nodes(taken_out(plan, tree, name)[1]), nodes(tree))

    def test_bad_names(self):
        for name in ["c", "A", "", "ab", "a ", None, 0, 1, True, ("a",), ["a"], {"a": 1}, DEEP, P[0], ("a", "b")]:
            self.assert_error(BadName, name, taken_out, P, T, name)
        for name in ODD:
            if name != "a":
                self.assert_error(BadName, name, taken_out, P, T, name)
            self.assert_error(BadName, name, taken_out, (), None, name)


class Rows(ChangeCase):
    def assert_right(self, chance, plan, tree):
        """The tree is one of the plan, and walks, views and openings of it are right."""
        self.assertTrue(is_tree_by_the_words(plan, tree))
        self.assert_same(is_tree(plan, tree), True)
        eye = random_eye(chance, plan, 6)
        self.assert_same(judge_pieces(plan, tree, eye, walk(plan, tree, eye)), ("fits",))
        wanted = view_by_the_words(plan, eye)
        self.assert_same(view_by_walk(plan, tree, eye), wanted)
        self.assert_same(view(plan, eye), wanted)
        box = (-61, -61, 61, 61)
        if nodes(tree) <= 8 and is_box_by_the_words(plan, tree, box):
            self.assert_same(openings(plan, tree, box), openings_by_the_words(plan, tree, box))
            return 1
        return 0

    def test_rows_of_puts_and_takes(self):
        chance = random.Random(93)
        boxes = 0
        for k in range(30):
            size = chance.choice([3, 6, 20])
            plan = random_plan(chance, k % 4, size)
            tree = random_tree(chance, plan, chance.randint(0, 2), 6)
            for step in range(8):
                if plan and (len(plan) > 7 or chance.random() < 0.4):
                    plan, tree = taken_out(plan, tree, chance.choice(plan)[0])
                else:
                    plan, tree = put_in(plan, tree, random_addition(chance, plan, size, f"n{step}"))
                boxes += self.assert_right(chance, plan, tree)
        self.assertGreater(boxes, 30)

    def test_in_and_out_again(self):
        chance = random.Random(94)
        for k in range(60):
            plan = random_plan(chance, k % 6, 5)
            tree = random_tree(chance, plan, 2, 6)
            wall = random_addition(chance, plan, 6, "new")
            longer, grown = put_in(plan, tree, wall)
            self.assert_same(longer, plan + (wall,))
            shorter, cleared = taken_out(longer, grown, "new")
            self.assert_same(shorter, plan)
            self.assertEqual(nodes(cleared), nodes(grown))
            self.assertGreaterEqual(further(cleared, plan), nodes(grown) - nodes(tree))
            self.assert_right(chance, shorter, cleared)
            # Put in once more, it finds its nodes and lines again.
            self.assert_same(put_in(shorter, cleared, wall), (longer, grown))

    def test_out_and_in_again(self):
        chance = random.Random(95)
        for k in range(60):
            plan = random_plan(chance, 1 + k % 6, 5)
            tree = random_tree(chance, plan, 2, 6)
            wall = chance.choice(plan)
            shorter, cleared = taken_out(plan, tree, wall[0])
            longer, filled = put_in(shorter, cleared, wall)
            self.assert_same(longer, tuple(one for one in plan if one != wall) + (wall,))
            self.assertEqual(nodes(filled), nodes(tree))
            self.assert_right(chance, longer, filled)

    def test_the_same_call_again(self):
        wall = ("c", (0, 4), (6, 4))
        before = repr((P, T, wall))
        self.assert_same(put_in(P, T, wall), put_in(P, T, wall))
        self.assert_same(taken_out(P, T, "a"), taken_out(P, T, "a"))
        self.assertEqual(repr((P, T, wall)), before)

    def test_forty_nodes(self):
        chance = random.Random(96)
        plan, tree = (), None
        begin = time.process_time()
        step = 0
        while nodes(tree) < 40:
            step += 1
            if len(plan) == 9:
                plan, tree = taken_out(plan, tree, plan[0][0])
            plan, tree = put_in(plan, tree, random_addition(chance, plan, 60, f"n{step}"))
        self.assertLess(time.process_time() - begin, 4)
        self.assert_right(chance, plan, tree)


class Refusals(PromiseCase):
    CALLS = [(put_in, (("c", (0, 4), (6, 4)),)), (put_in, (None,)), (taken_out, ("a",)), (taken_out, ("c",))]

    def test_bad_plans_come_first(self):
        for plan in BAD_PLANS:
            for function, more in self.CALLS:
                self.assert_error(BadPlan, plan, function, plan, T, *more)
                self.assert_error(BadPlan, plan, function, plan, None, *more)

    def test_bad_trees_come_next(self):
        for tree in BAD_TREES:
            for function, more in self.CALLS:
                self.assert_error(BadTree, tree, function, P, tree, *more)

    def test_large_numbers(self):
        self.assert_error(BadWall, ("c", (-BIG, 0), (BIG, 0)), put_in, P, T, ("c", (-BIG, 0), (BIG, 0)))


if __name__ == "__main__":
    unittest.main()
