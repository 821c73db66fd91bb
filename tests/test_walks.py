"""[4.1] to [4.3], the first sentence of [0.2], and walk, judge_pieces and pieces_holds of eyeorder/walks.py."""

import random
import time
import unittest
from fractions import Fraction
from itertools import permutations
from math import gcd

from eyeorder import walks
from eyeorder.errors import BadEye, BadPieces, BadPlan, BadTree
from eyeorder.trees import built, pieces_of
from eyeorder.walks import judge_pieces, pieces_holds, walk
from tests.oracles import (
    crossed_at, direction_to, is_eye_by_the_words, mirrored, nodes, place_of, random_plan, random_tree,
    round_about, turned, walk_by_the_words, wrong_pairs,
)
from tests.promises import DEEP, ODD, P, PromiseCase, variants, walls_of

BIG = 999999999999
E = (0, 0, 1)
A, B = ("a", (2, -1, 1), (2, 1, 1)), ("b", (4, -3, 1), (4, 3, 1))
T = built(P, ("a", "b"))


def random_eye(chance, plan, size):
    while True:
        w = chance.choice([1, 1, 1, 2, 3, 7])
        eye = place_of(*(Fraction(chance.randint(-size * w, size * w), w) for _ in range(2)))
        if is_eye_by_the_words(plan, eye):
            return eye


def random_cases(seed, many, walls, size, more=4):
    """Plans with a tree of further lines, and an eye."""
    chance = random.Random(seed)
    for k in range(many):
        plan = random_plan(chance, k % walls + 1, size)
        tree = random_tree(chance, plan, chance.randint(0, more), size)
        yield chance, plan, tree, random_eye(chance, plan, size)


class WalkCase(PromiseCase):
    def assert_judged(self, plan, tree, eye, pieces):
        """The certificate is of the right kind, and pieces_holds takes it and no one of the other kind."""
        pairs = wrong_pairs(eye, pieces)
        told = judge_pieces(plan, tree, eye, pieces)
        self.assert_same(pieces_holds(plan, tree, eye, pieces, told), True)
        self.assert_same(pieces_holds(plan, tree, eye, pieces, ("fits",)), not pairs)
        if not pairs:
            self.assert_same(told, ("fits",))
            return
        kind, i, j, direction = told
        self.assert_same(kind, "wrong")
        self.assertIn((i, j), pairs)
        self.assert_wrong(eye, pieces, told)
        for (i, j), direction in pairs.items():
            self.assert_same(pieces_holds(plan, tree, eye, pieces, ("wrong", i, j, direction)), True)
            self.assert_same(pieces_holds(plan, tree, eye, pieces, ("wrong", j, i, direction)), False)

    def assert_wrong(self, eye, pieces, told):
        _, i, j, direction = told
        self.assert_same(direction, direction_to((0, 0, 1), direction))
        self.assertLess(i, j)
        self.assertLess(crossed_at(eye, direction, pieces[j]), crossed_at(eye, direction, pieces[i]))


class DocumentExamples(WalkCase):
    def test_the_two_walls(self):
        tree = built(P, ("b", "a"))
        order = walk(P, tree, E)
        self.assert_same(
            [order, judge_pieces(P, tree, E, order), judge_pieces(P, tree, E, order[::-1])[:3],
             pieces_holds(P, tree, E, order[::-1], ("wrong", 0, 1, (5, 1))),
             pieces_holds(P, tree, E, order[::-1], ("wrong", 0, 1, (2, 1)))],
            [(A, B), ("fits",), ("wrong", 0, 1), True, False],
        )


class Interface(PromiseCase):
    def test_defined_in_this_file(self):
        for name in ["walk", "judge_pieces", "pieces_holds"]:
            self.assertEqual(getattr(walks, name).__module__, "eyeorder.walks")
            self.assertEqual(getattr(walks, name).__name__, name)

    def test_parameters_by_name(self):
        self.assert_same(walk(eye=E, tree=T, plan=P), (A, B))
        self.assert_same(judge_pieces(pieces=(A, B), eye=E, tree=T, plan=P), ("fits",))
        self.assert_same(pieces_holds(thing=("fits",), pieces=(A, B), eye=E, tree=T, plan=P), True)


class Walks(WalkCase):
    def test_none(self):
        self.assert_same(walk((), None, E), ())
        self.assert_same(walk((), ((1, 0, 0), (), None, ((1, 0, 0), (), None, None)), E), ())

    def test_on_either_side(self):
        other = built(P, ("b", "a"))
        for eye, first, second in [((0, 0, 1), (A, B), (A, B)), ((9, 0, 1), (B, A), (B, A)),
                                   ((7, 1, 2), (B, A), (A, B)), ((5, 9, 2), (B, A), (A, B))]:
            self.assert_same(walk(P, T, eye), first)
            self.assert_same(walk(P, mirrored(T), eye), first)
            self.assert_same(walk(P, other, eye), second)
            self.assert_same(walk(P, mirrored(other), eye), second)

    def test_on_the_line_the_left_tree_comes_first(self):
        plan = walls_of((0, 0, 1, 0), (3, 1, 4, 1), (3, -1, 4, -1))
        a, b, c = (("a", (0, 0, 1), (1, 0, 1)), ("b", (3, 1, 1), (4, 1, 1)), ("c", (3, -1, 1), (4, -1, 1)))
        tree = built(plan, ("a", "b", "c"))
        for eye in [(-2, 0, 1), (2, 0, 1), (9, 0, 1), (7, 0, 2)]:
            self.assert_same(walk(plan, tree, eye), (b, a, c))
            self.assert_same(walk(plan, mirrored(tree), eye), (c, a, b))
        self.assert_same(walk(plan, tree, (2, 1, 1)), (b, a, c))
        self.assert_same(walk(plan, tree, (2, -1, 1)), (c, a, b))
        self.assert_same(walk(plan, tree, (2, -1, 3)), (c, a, b))

    def test_on_the_lines_of_several_nodes(self):
        plan = walls_of((1, 0, 2, 0), (0, 1, 0, 2), (-1, -1, -2, -2), (3, -3, 4, -4))
        for order in permutations("abcd"):
            for tree in (built(plan, order), mirrored(built(plan, order))):
                self.assert_same(walk(plan, tree, E), walk_by_the_words(tree, E))

    def test_nodes_without_pieces(self):
        tree = ((0, 1, 0), (), ((1, 0, -1), (), None, None), None)
        self.assert_same(walk((), tree, E), ())
        upper = ((-1, 0, 2), (("a", (2, 0, 1), (2, 1, 1)),), None,
                 ((-1, 0, 4), (("b", (4, 0, 1), (4, 3, 1)),), None, None))
        lower = ((-1, 0, 4), (("b", (4, -3, 1), (4, 0, 1)),),
                 ((1, 0, -2), (("a", (2, -1, 1), (2, 0, 1)),), None, None), None)
        ups, lows = (upper[1][0], upper[3][1][0]), (lower[2][1][0], lower[1][0])
        self.assert_same(walk(P, ((0, 1, 0), (), upper, lower), (0, 1, 2)), ups + lows)
        self.assert_same(walk(P, ((0, 1, 0), (), upper, lower), (0, 0, 1)), ups + lows)
        self.assert_same(walk(P, ((0, 1, 0), (), upper, lower), (0, -1, 2)), lows + ups)
        self.assert_same(walk(P, ((0, 1, 0), (), upper, lower), (9, -1, 2)), lows[::-1] + ups[::-1])

    def test_random(self):
        for _, plan, tree, eye in random_cases(41, 150, 5, 4):
            for one in (tree, mirrored(tree)):
                self.assert_same(walk(plan, one, eye), walk_by_the_words(one, eye))

    def test_the_nearer_piece_comes_first(self):
        for _, plan, tree, eye in random_cases(42, 150, 6, 5):
            found = walk(plan, tree, eye)
            self.assertEqual(wrong_pairs(eye, found), {})
            self.assert_same(sorted(found), sorted(pieces_of(plan, tree)))
            self.assert_same(judge_pieces(plan, tree, eye, found), ("fits",))
            self.assert_same(pieces_holds(plan, tree, eye, found, ("fits",)), True)


class Judged(WalkCase):
    def test_no_pieces_and_one(self):
        for eye in [E, (1, 5, 7)]:
            self.assert_judged((), None, eye, ())
            self.assert_judged((), ((1, 0, 0), (), None, None), eye, ())
            self.assert_judged(P[:1], built(P[:1], ("a",)), eye, (A,))
            for thing in [("wrong", 0, 0, (1, 0)), ("wrong", 0, 1, (1, 0)), ("wrong", -1, 0, (1, 0))]:
                self.assert_same(pieces_holds(P[:1], built(P[:1], ("a",)), eye, (A,), thing), False)
                self.assert_same(pieces_holds((), None, eye, (), thing), False)

    def test_two_walls_from_everywhere(self):
        for eye in [(0, 0, 1), (9, 0, 1), (3, 0, 1), (2, 2, 1), (2, 9, 1), (4, 9, 2), (4, 5, 1), (0, 9, 1), (3, 50, 1)]:
            for pieces in [(A, B), (B, A)]:
                self.assert_judged(P, T, eye, pieces)
        # From between the walls no ray crosses both.
        self.assert_same(judge_pieces(P, T, (3, 0, 1), (A, B)), ("fits",))
        self.assert_same(judge_pieces(P, T, (3, 0, 1), (B, A)), ("fits",))
        # From the line of one of them no ray crosses that one.
        self.assert_same(judge_pieces(P, T, (2, 2, 1), (B, A)), ("fits",))
        self.assert_same(judge_pieces(P, T, (2, 2, 1), (A, B)), ("fits",))

    def test_a_narrow_gap_between_the_rays(self):
        # The two pieces hide one another in a small angle only.
        plan = walls_of((1, 0, 1, 60), (60, -60, 60, 1))
        one, other = (("a", (1, 0, 1), (1, 60, 1)), ("b", (60, -60, 1), (60, 1, 1)))
        tree = built(plan, ("a", "b"))
        told = judge_pieces(plan, tree, E, (other, one))
        self.assert_same(told[:3], ("wrong", 0, 1))
        self.assert_wrong(E, (other, one), told)
        touching = walls_of((1, 0, 1, 60), (60, -60, 60, 0))
        tree = built(touching, ("a", "b"))
        other = ("b", (60, -60, 1), (60, 0, 1))
        self.assert_same(judge_pieces(touching, tree, E, (other, one)), ("fits",))

    def test_turned_round_exchanged_and_moved(self):
        kinds = {"fits": 0, "wrong": 0}
        for chance, plan, tree, eye in random_cases(43, 80, 5, 4):
            order = walk(plan, tree, eye)
            k, j = chance.randrange(len(order)), chance.randrange(len(order))
            moved = list(order)
            moved.insert(j, moved.pop(k))
            neighbours = list(order)
            neighbours[k - 1:k + 1] = neighbours[k - 1:k + 1][::-1]
            mixed = chance.sample(order, len(order))
            for pieces in (order[::-1], tuple(moved), tuple(neighbours), tuple(mixed), pieces_of(plan, tree)):
                self.assert_judged(plan, tree, eye, pieces)
                kinds[judge_pieces(plan, tree, eye, pieces)[0]] += 1
        self.assertGreater(min(kinds.values()), 50)

    def test_every_order_of_three_walls(self):
        plan = walls_of((2, -1, 2, 1), (4, -3, 4, 3), (3, -9, 3, 0))
        tree = built(plan, ("a", "c", "b"))
        for eye in [(0, 0, 1), (9, -1, 1), (3, 1, 1), (5, -60, 2), (2, 2, 1)]:
            for pieces in permutations(pieces_of(plan, tree)):
                self.assert_judged(plan, tree, eye, pieces)


class Certificates(WalkCase):
    WRONG = (B, A)

    def holds(self, thing, pieces=WRONG, eye=E):
        return pieces_holds(P, T, eye, pieces, thing)

    def test_positions(self):
        self.assert_same(self.holds(("wrong", 0, 1, (1, 0))), True)
        for i, j in [(1, 0), (0, 0), (1, 1), (-1, 1), (0, 2), (0, -1), (-2, -1), (-2, 1), (1, 2), (0, BIG), (-BIG, 1),
                     (False, 1), (0, True), (False, True), (0, "1"), (None, None), ((0,), 1), (0, [1])]:
            self.assert_same(self.holds(("wrong", i, j, (1, 0))), False)
        for i, j in [(0, 1), (1, 0), (0, 0), (False, True), (-1, 0), (-1, -2), (1, 2), (True, False)]:
            self.assert_same(self.holds(("wrong", i, j, (1, 0)), (A, B)), False)

    def test_directions(self):
        for direction in [(1, 0), (5, 1), (5, -1), (BIG, 1), (BIG, -1), (BIG, BIG // 3), (BIG - 1, (BIG - 3) // 2)]:
            wanted = direction == direction_to(E, direction)
            self.assert_same(self.holds(("wrong", 0, 1, direction)), wanted)
        for direction in [(2, 1), (2, -1), (2, 0), (10, 2), (0, 0), (-1, 0), (-5, -1), (0, 1), (1, 1), (4, 3), (4, -3),
                          (BIG, BIG - 1), [1, 0], (True, 0), (1, False), (1, 0, 0), (1,), None, "10", ("1", 0),
                          (1, None), ((1, 0),), (-BIG, 1), (BIG, 0), (BIG + 1, (BIG + 1) // 2 + 1)]:
            self.assert_same(self.holds(("wrong", 0, 1, direction)), False)

    def test_a_direction_close_to_an_end(self):
        # The end (2, 1) is in the direction (2, 1), the lesser angle crosses the piece.
        self.assert_same(self.holds(("wrong", 0, 1, (BIG, (BIG - 1) // 2))), True)
        self.assert_same(self.holds(("wrong", 0, 1, (BIG, (BIG + 1) // 2))), False)
        self.assert_same(self.holds(("wrong", 0, 1, (BIG, (1 - BIG) // 2))), True)
        self.assert_same(self.holds(("wrong", 0, 1, (BIG, (-1 - BIG) // 2))), False)

    def test_other_forms(self):
        for thing in [("fits",), ["fits"], ["wrong", 0, 1, (1, 0)], ("wrong", 0, 1), ("wrong", 0, 1, (1, 0), None),
                      ("wrong", 0, 1, 1, 0), ("Wrong", 0, 1, (1, 0)), ("fits", 0, 1, (1, 0)), (0, 1, (1, 0)), "wrong",
                      ("wrong",), (), None, True, (True,), DEEP, {"wrong": 0}, (None, 0, 1, (1, 0))]:
            self.assert_same(self.holds(thing), False)

    def test_fits(self):
        self.assert_same(self.holds(("fits",), (A, B)), True)
        self.assert_same(self.holds(("fits",), (B, A), (9, 0, 1)), True)
        self.assert_same(self.holds(("fits",), (A, B), (9, 0, 1)), False)
        for thing in ["fits", ["fits"], ("fits", None), ("fits", "fits"), ("wrong",), ("fit",), (True,), (("fits",),),
                      ("fits", 0, 1, (1, 0)), ("wrong", 0, 1, (1, 0)), (), None, True, {"fits": 1}, ("Fits",)]:
            self.assert_same(self.holds(thing, (A, B)), False)

    def test_any_value(self):
        for thing in ODD:
            self.assert_same(self.holds(thing), False)
            self.assert_same(self.holds(thing, (A, B)), False)
        for thing in variants(("wrong", 0, 1, (5, 1))):
            self.assert_same(self.holds(thing), self.is_right(thing))
            self.assert_same(self.holds(thing, (A, B)), False)
        for thing in variants(("fits",)):
            self.assert_same(self.holds(thing, (A, B)), thing == ("fits",))
            self.assert_same(self.holds(thing), False)

    def test_the_value_is_left_as_it_was(self):
        thing = ["wrong", 1, 0, [1, 0], {"a": []}]
        before = repr(thing)
        for other in (thing, tuple(thing), thing[:4], tuple(thing[:4])):
            self.assert_same(self.holds(other), False)
        self.assertEqual(repr(thing), before)
        pieces = [list(B), list(A)]
        self.assert_error(BadPieces, pieces, judge_pieces, P, T, E, pieces)

    @staticmethod
    def is_right(thing):
        """Whether thing is a certificate of the kind "wrong" for the pieces that are turned round."""
        if type(thing) is not tuple or repr(thing[:3]) != "('wrong', 0, 1)" or len(thing) != 4:
            return False
        x, y = thing[3] if type(thing[3]) is tuple and len(thing[3]) == 2 else (0, 0)
        return type(x) is type(y) is int and gcd(x, y) == 1 and 2 * abs(y) < x

    def test_rays_along_a_piece_do_not_cross_it(self):
        plan = walls_of((1, 0, 2, 0), (4, -1, 4, 1))
        one, other = ("a", (1, 0, 1), (2, 0, 1)), ("b", (4, -1, 1), (4, 1, 1))
        tree = built(plan, ("a", "b"))
        pieces = pieces_of(plan, tree)
        self.assertEqual(len(pieces), 3)
        for order in permutations(pieces):
            for i, j in permutations(range(3), 2):
                self.assert_same(pieces_holds(plan, tree, E, order, ("wrong", i, j, (1, 0))), False)
            self.assert_same(pieces_holds(plan, tree, E, order, ("fits",)), True)
        tree = built(plan, ("b", "a"))
        self.assert_same(pieces_holds(plan, tree, E, (other, one), ("wrong", 0, 1, (1, 0))), False)
        self.assert_same(pieces_holds(plan, tree, E, (other, one), ("fits",)), True)

    def test_rays_to_an_end_do_not_cross_the_piece(self):
        plan = walls_of((2, 0, 2, 3), (5, -3, 5, 3))
        one, other = ("a", (2, 0, 1), (2, 3, 1)), ("b", (5, -3, 1), (5, 3, 1))
        tree = built(plan, ("a", "b"))
        self.assert_same(pieces_holds(plan, tree, E, (other, one), ("wrong", 0, 1, (1, 0))), False)
        self.assert_same(pieces_holds(plan, tree, E, (other, one), ("wrong", 0, 1, (BIG, 1))), True)
        self.assert_same(pieces_holds(plan, tree, E, (other, one), ("wrong", 0, 1, (BIG, -1))), False)

    def test_rays_to_a_common_place(self):
        corner = walls_of((2, 0, 3, 4), (2, 0, 3, -4), (2, 0, 5, 0))
        for order in permutations("abc"):
            tree = built(corner, order)
            for pieces in permutations(pieces_of(corner, tree)):
                self.assert_same(judge_pieces(corner, tree, E, pieces), ("fits",))
                for i, j in permutations(range(3), 2):
                    self.assert_same(pieces_holds(corner, tree, E, pieces, ("wrong", i, j, (1, 0))), False)
        across = walls_of((2, -2, 2, 2), (2, 0, 5, 1))
        for order in permutations("ab"):
            tree = built(across, order)
            for pieces in permutations(pieces_of(across, tree)):
                self.assert_judged(across, tree, E, pieces)

    def test_every_pair_and_every_direction(self):
        right = 0
        for chance, plan, tree, eye in random_cases(44, 50, 4, 4, 2):
            pieces = tuple(chance.sample(pieces_of(plan, tree), len(pieces_of(plan, tree))))
            for direction in {one for row in round_about(eye, pieces) for one in row}:
                times = [crossed_at(eye, direction, piece) for piece in pieces]
                for i, j in permutations(range(len(pieces)), 2):
                    wanted = i < j and None not in (times[i], times[j]) and times[j] < times[i]
                    right += wanted
                    thing = ("wrong", i, j, direction)
                    self.assert_same(pieces_holds(plan, tree, eye, pieces, thing), wanted)
        self.assertGreater(right, 50)


class Refusals(PromiseCase):
    CALLS = [(walk, ()), (judge_pieces, ((A, B),)), (judge_pieces, (None,)), (pieces_holds, ((A, B), ("fits",))),
             (pieces_holds, (None, None))]

    def test_bad_plans_come_first(self):
        for plan in [list(P), None, (P[0], P[0]), "", walls_of((0, 0, 2, 0), (1, -1, 1, 1))]:
            for function, more in self.CALLS:
                self.assert_error(BadPlan, plan, function, plan, T, E, *more)
                self.assert_error(BadPlan, plan, function, plan, None, (2, 0, 1), *more)

    def test_bad_trees_come_next(self):
        for tree in [None, (), list(T), T[3], (turned(T[0]), *T[1:]), built(P[:1], ("a",)), DEEP]:
            for function, more in self.CALLS:
                self.assert_error(BadTree, tree, function, P, tree, E, *more)
                self.assert_error(BadTree, tree, function, P, tree, (2, 0, 1), *more)

    def test_bad_eyes_come_next(self):
        for eye in [None, (0, 0), (0, 0, 0), (0, 0, 2), (2, 4, 2), (1, 1, -1), [0, 0, 1], (0, 0, True), (0, "0", 1),
                    (2, 0, 1), (4, 1, 2), (4, 1, 1), (2, 1, 1), (4, -3, 1), (12, 8, 3), (0, 0, 1, 1), "eye", DEEP]:
            for function, more in self.CALLS:
                self.assert_error(BadEye, eye, function, P, T, eye, *more)
        for eye in ODD:
            if eye not in [(0, 0, 1), (0, 1, 0), (1, 0, 0)]:
                self.assert_error(BadEye, eye, walk, P, T, eye)
        for eye in [(2, 2, 1), (2, -2, 1), (4, 4, 1), (4, 7, 2), (6, 4, 3), (3, 0, 1)]:
            walk(P, T, eye)

    def test_eyes_on_slanted_walls(self):
        plan = walls_of((0, 0, 6, 3), (1, 5, 4, -4))
        tree = built(plan[:1], ("a",))
        for eye in [(0, 0, 1), (6, 3, 1), (2, 1, 1), (2, 1, 2), (1, 1, 2), (3, 3, 2)]:
            if eye in [(1, 1, 2), (3, 3, 2)]:
                walk(plan[:1], tree, eye)
            else:
                self.assert_error(BadEye, eye, walk, plan[:1], tree, eye)
        for eye in [(-2, -1, 1), (8, 4, 1), (-1, -1, 2), (13, 13, 4)]:
            walk(plan[:1], tree, eye)

    def test_bad_pieces(self):
        whole = [A, B]
        for pieces in [(), (A,), (B,), (A, A), (B, B), (A, B, A), (A, B, B), (A, B, ("c", *A[1:])), whole, None,
                       (("a", A[2], A[1]), B), (("c", *A[1:]), B), (("a", A[1], (2, 0, 1)), B), (list(A), B),
                       (("a", (2, -1), (2, 1)), B), (("a", (2, -1, True), (2, 1, 1)), B),
                       (("a", (2, -1, 1), (2, True, 1)), B), (("a", (4, -2, 2), (2, 1, 1)), B), (A + (0,), B),
                       (A[:2], B), (A, None), (A, 0), "ab", {A: 1, B: 2}, (A, {}), (A, ("b", [4, -3, 1], (4, 3, 1))),
                       ((A, B),), (A, (B,)), DEEP, (None, A[1:], B), ((True, *A[1:]), B), ((["a"], *A[1:]), B)]:
            self.assert_error(BadPieces, pieces, judge_pieces, P, T, E, pieces)
            self.assert_error(BadPieces, pieces, pieces_holds, P, T, E, pieces, ("fits",))
            self.assert_error(BadPieces, pieces, pieces_holds, P, T, E, pieces, None)

    def test_the_pieces_of_another_tree(self):
        cut = ((0, 1, 0), (), ((-1, 0, 2), (("a", (2, 0, 1), (2, 1, 1)),), None, None),
               ((-1, 0, 2), (("a", (2, -1, 1), (2, 0, 1)),), None, None))
        pieces = walk(P[:1], cut, E)
        self.assert_error(BadPieces, (A,), judge_pieces, P[:1], cut, E, (A,))
        self.assert_error(BadPieces, pieces, judge_pieces, P[:1], built(P[:1], ("a",)), E, pieces)
        self.assert_same(judge_pieces(P[:1], cut, E, pieces), ("fits",))

    def test_any_value_as_pieces(self):
        right = {repr((A, B)), repr((B, A))}
        for pieces in ODD + list(variants((A, B))):
            if repr(pieces) not in right:
                self.assert_error(BadPieces, pieces, pieces_holds, P, T, E, pieces, ("fits",))
                self.assert_error(BadPieces, pieces, judge_pieces, P, T, E, pieces)


class Sizes(WalkCase):
    def test_nine_walls_and_forty_nodes(self):
        chance = random.Random(45)
        for size in (9, 60):
            plan = random_plan(chance, 9, size)
            tree = random_tree(chance, plan, 12, size)
            while not 30 <= nodes(tree) <= 40:
                tree = random_tree(chance, plan, chance.randint(5, 15), size)
            eye = random_eye(chance, plan, size)
            begin = time.process_time()
            order = walk(plan, tree, eye)
            self.assert_same(judge_pieces(plan, tree, eye, order), ("fits",))
            told = judge_pieces(plan, tree, eye, order[::-1])
            self.assert_same(told[0], "wrong")
            self.assert_same(pieces_holds(plan, tree, eye, order[::-1], told), True)
            self.assert_same(pieces_holds(plan, tree, eye, order, ("fits",)), True)
            self.assertLess(time.process_time() - begin, 4)
            self.assertEqual(order, walk_by_the_words(tree, eye))


if __name__ == "__main__":
    unittest.main()
