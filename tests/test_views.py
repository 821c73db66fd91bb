"""[5.1] to [5.3], the second sentence of [0.2], and the functions of eyeorder/views.py."""

import random
import time
import unittest
from itertools import permutations

from eyeorder import views
from eyeorder.errors import BadDirection, BadEye, BadPlan, BadTree
from eyeorder.trees import built, is_tree
from eyeorder.views import is_view, sees, view, view_by_walk, walls_seen
from tests.oracles import (
    by_angle, mirrored, nodes, random_plan, random_tree, round_about, sees_by_the_words, turned,
    view_by_the_words,
)
from tests.promises import DEEP, ODD, P, PromiseCase, variants, walls_of
from tests.test_walks import random_cases, random_eye

BIG = 999999999999
E = (0, 0, 1)
T = built(P, ("a", "b"))
VIEW = (((2, 1), (4, 3), "b", "left"), ((4, 3), (4, -3), None, None), ((4, -3), (2, -1), "b", "left"),
        ((2, -1), (2, 1), "a", "left"))
NOTHING = (((1, 0), (1, 0), None, None),)


def backwards(plan, which):
    """The plan with those walls turned round for which the bit is set."""
    return tuple((name, q, p) if which >> k & 1 else (name, p, q) for k, (name, p, q) in enumerate(plan))


def lies_in(direction, first, last):
    """Whether one meets the direction when one turns counterclockwise from the first to the last."""
    if first == last:
        return direction != first
    if by_angle(first, last) < 0:
        return by_angle(first, direction) < 0 and by_angle(direction, last) < 0
    return by_angle(first, direction) < 0 or by_angle(direction, last) < 0


class ViewCase(PromiseCase):
    def assert_view(self, plan, eye, wanted):
        self.assert_same(view_by_the_words(plan, eye), wanted)
        self.assert_same(view(plan, eye), wanted)
        self.assert_same(is_view(plan, eye, wanted), True)
        names = [wall[0] for wall in plan]
        for order in list(permutations(names))[:24]:
            tree = built(plan, order)
            self.assert_same(view_by_walk(plan, tree, eye), wanted)
            self.assert_same(view_by_walk(plan, mirrored(tree), eye), wanted)
        self.assert_same(walls_seen(plan, eye), tuple(sorted({arc[2] for arc in wanted} - {None})))

    def assert_defined(self, plan, eye, arcs):
        """The arcs are a view, by what the document says of each one."""
        for k, (first, last, name, face) in enumerate(arcs):
            self.assertEqual(arcs[k - 1][1], first)
            if len(arcs) > 1:
                self.assertNotEqual(arcs[k - 1][2], name)
                self.assertLessEqual(by_angle(arcs[0][0], first), 0)
            for _, direction in round_about(eye, plan):
                if lies_in(direction, first, last):
                    seen = sees_by_the_words(plan, eye, direction)
                    self.assertEqual(seen and seen[1], name and (name,))
            if name is not None:
                self.assertGreater(first[0] * last[1], first[1] * last[0])
                _, (x, y), (u, v) = [wall for wall in plan if wall[0] == name][0]
                a, b, w = eye
                turn = (u - x) * (b - y * w) - (v - y) * (a - x * w)
                self.assertEqual(face, "left" if turn > 0 else "right")
            else:
                self.assertIsNone(face)


class DocumentExamples(ViewCase):
    def test_the_two_walls(self):
        self.assert_same(
            [sees(P, E, (1, 0)), sees(P, E, (2, 1)), sees(P, E, (-1, 0)), view(P, E),
             view_by_walk(P, built(P, ("b", "a")), E) == view(P, E), walls_seen(P, E), view((), E)],
            [((2, 0, 1), ("a",)), ((2, 1, 1), ("a",)), None, VIEW, True, ("a", "b"), NOTHING],
        )


class Interface(PromiseCase):
    def test_defined_in_this_file(self):
        for name in ["sees", "view", "view_by_walk", "is_view", "walls_seen"]:
            self.assertEqual(getattr(views, name).__module__, "eyeorder.views")
            self.assertEqual(getattr(views, name).__name__, name)

    def test_parameters_by_name(self):
        self.assert_same(sees(direction=(1, 0), eye=E, plan=P), ((2, 0, 1), ("a",)))
        self.assert_same(view(eye=E, plan=P), VIEW)
        self.assert_same(view_by_walk(eye=E, tree=T, plan=P), VIEW)
        self.assert_same(is_view(thing=VIEW, eye=E, plan=P), True)
        self.assert_same(walls_seen(eye=E, plan=P), ("a", "b"))


class Seen(ViewCase):
    def assert_sees(self, plan, eye, direction, wanted):
        self.assert_same(sees_by_the_words(plan, eye, direction), wanted)
        for order in permutations(plan):
            for which in range(2 ** len(plan)):
                self.assert_same(sees(backwards(order, which), eye, direction), wanted)

    def test_nothing(self):
        self.assert_sees((), E, (1, 0), None)
        self.assert_sees((), (5, 3, 2), (-BIG, 1), None)
        for direction in [(-1, 0), (0, 1), (0, -1), (1, 1), (1, -1), (-1, -1), (3, 4), (3, -4), (-2, 1), (-2, -1)]:
            self.assert_sees(P, E, direction, None)

    def test_the_inside_of_a_wall(self):
        self.assert_sees(P, E, (3, 1), ((6, 2, 3), ("a",)))
        self.assert_sees(P, E, (3, -1), ((6, -2, 3), ("a",)))
        self.assert_sees(P, E, (3, 2), ((12, 8, 3), ("b",)))
        self.assert_sees(P, (3, 0, 1), (1, 0), ((4, 0, 1), ("b",)))
        self.assert_sees(P, (3, 0, 1), (-1, 0), ((2, 0, 1), ("a",)))
        self.assert_sees(P, (7, 1, 2), (-7, -3), ((14, -1, 7), ("a",)))

    def test_the_ends_of_a_wall(self):
        for direction, place in [((2, 1), (2, 1, 1)), ((2, -1), (2, -1, 1))]:
            self.assert_sees(P, E, direction, (place, ("a",)))
        for direction, place in [((4, 3), (4, 3, 1)), ((4, -3), (4, -3, 1))]:
            self.assert_sees(P, E, direction, (place, ("b",)))

    def test_a_corner_of_several_walls(self):
        corner = (("c", (2, 0), (3, 4)), ("a", (3, -4), (2, 0)), ("b1", (2, 0), (5, 0)), ("b", (2, 0), (2, -9)))
        self.assert_sees(corner, E, (1, 0), ((2, 0, 1), ("a", "b", "b1", "c")))
        self.assert_sees(corner, (9, 0, 1), (-1, 0), ((5, 0, 1), ("b1",)))
        self.assert_sees(corner, (4, 1, 1), (-2, -1), ((2, 0, 1), ("a", "b", "b1", "c")))
        self.assert_sees(corner[:2], E, (1, 0), ((2, 0, 1), ("a", "c")))

    def test_an_end_on_the_inside_of_another_wall(self):
        plan = walls_of((2, -2, 2, 2), (2, 0, 5, 0), (2, 1, 0, 3))
        self.assert_sees(plan, E, (1, 0), ((2, 0, 1), ("a", "b")))
        self.assert_sees(plan, E, (2, 1), ((2, 1, 1), ("a", "c")))
        self.assert_sees(plan, (7, 0, 1), (-1, 0), ((5, 0, 1), ("b",)))

    def test_along_a_wall(self):
        plan = walls_of((2, 2, 4, 4), (5, 5, 4, 4), (-1, -1, -3, -3))
        self.assert_sees(plan, E, (1, 1), ((2, 2, 1), ("a",)))
        self.assert_sees(plan, E, (-1, -1), ((-1, -1, 1), ("c",)))
        self.assert_sees(plan, (6, 6, 1), (-1, -1), ((5, 5, 1), ("b",)))
        self.assert_sees(plan, (6, 6, 1), (1, 1), None)
        self.assert_sees(plan, (3, 3, 2), (1, 1), ((2, 2, 1), ("a",)))
        self.assert_sees(plan, (3, 3, 2), (1, 2), None)
        self.assert_sees(plan[1:2], (6, 6, 1), (-1, -1), ((5, 5, 1), ("b",)))
        self.assert_sees(plan[:1], (5, 4, 1), (-1, 0), ((4, 4, 1), ("a",)))
        for x, y in [(1, 0), (-1, 0), (0, 1), (0, -1)]:
            self.assert_sees(walls_of((x, y, 3 * x, 3 * y)), E, (x, y), ((x, y, 1), ("a",)))
            self.assert_sees(walls_of((x, y, 3 * x, 3 * y)), E, (-x, -y), None)

    def test_walls_behind_one_another(self):
        plan = walls_of((3, -1, 3, 1), (1, -1, 1, 1), (2, -1, 2, 5), (-1, -1, -1, 1))
        self.assert_sees(plan, E, (1, 0), ((1, 0, 1), ("b",)))
        self.assert_sees(plan, E, (1, 1), ((1, 1, 1), ("b",)))
        self.assert_sees(plan, E, (1, 2), ((2, 4, 1), ("c",)))
        self.assert_sees(plan, E, (-1, 0), ((-1, 0, 1), ("d",)))
        self.assert_sees(plan, (9, 0, 1), (-1, 0), ((3, 0, 1), ("a",)))

    def test_directions_of_twelve_digits(self):
        self.assert_sees(P, E, (BIG, 1), ((2 * BIG, 2, BIG), ("a",)))
        half_way = (BIG, (BIG - 1) // 2)
        self.assert_sees(P, E, half_way, ((2 * BIG, BIG - 1, BIG), ("a",)))
        past = (BIG, (BIG + 1) // 2)
        self.assert_sees(P, E, past, ((4 * BIG, 2 * BIG + 2, BIG), ("b",)))
        self.assert_sees(P, E, (-BIG, 1), None)
        self.assert_sees(P, E, (1, BIG), None)

    def test_random(self):
        for chance, plan, _, eye in random_cases(51, 150, 6, 5, 0):
            other = backwards(tuple(chance.sample(plan, len(plan))), chance.randrange(64))
            for row in round_about(eye, plan):
                for direction in (*row, (-row[0][0], -row[0][1])):
                    wanted = sees_by_the_words(plan, eye, direction)
                    self.assert_same(sees(plan, eye, direction), wanted)
                    self.assert_same(sees(other, eye, direction), wanted)


class Views(ViewCase):
    def test_no_walls(self):
        for eye in [E, (7, -5, 3)]:
            self.assert_view((), eye, NOTHING)
            self.assert_same(view_by_walk((), ((1, 0, 0), (), None, ((0, 1, 0), (), None, None)), eye), NOTHING)

    def test_one_wall_from_both_sides(self):
        plan = walls_of((2, -1, 2, 1))
        self.assert_view(plan, E, (((2, 1), (2, -1), None, None), ((2, -1), (2, 1), "a", "left")))
        self.assert_view(plan, (4, 0, 1), (((-2, 1), (-2, -1), "a", "right"), ((-2, -1), (-2, 1), None, None)))
        plan = walls_of((2, 1, 2, -1))
        self.assert_view(plan, E, (((2, 1), (2, -1), None, None), ((2, -1), (2, 1), "a", "right")))
        self.assert_view(plan, (4, 0, 1), (((-2, 1), (-2, -1), "a", "left"), ((-2, -1), (-2, 1), None, None)))

    def test_one_wall_from_its_own_line(self):
        for plan in (walls_of((2, 0, 5, 0)), walls_of((5, 0, 2, 0)), walls_of((2, 4, 5, 10)), walls_of((-1, 0, -2, 0)),
                     walls_of((-2, 3, -4, 6))):
            self.assert_view(plan, E, NOTHING)
        self.assert_view(walls_of((2, 0, 5, 0), (-2, 0, -5, 0)), E, NOTHING)
        self.assert_view(walls_of((2, 0, 5, 0), (-2, 0, -5, 0), (0, 3, 0, 2)), E, NOTHING)
        self.assert_view(walls_of((0, 0, 3, 1)), (-3, -1, 2), NOTHING)

    def test_walls_end_to_end_on_one_line(self):
        plan = walls_of((2, -1, 2, 1), (2, 1, 2, 3))
        self.assert_view(plan, E, (((2, 1), (2, 3), "b", "left"), ((2, 3), (2, -1), None, None),
                                   ((2, -1), (2, 1), "a", "left")))
        apart = walls_of((2, -2, 2, -1), (2, 2, 2, 1))
        self.assert_view(apart, E, (((2, 1), (1, 1), "b", "right"), ((1, 1), (1, -1), None, None),
                                    ((1, -1), (2, -1), "a", "left"), ((2, -1), (2, 1), None, None)))

    def test_a_corner(self):
        plan = walls_of((2, 0, 3, 4), (2, 0, 3, -4))
        self.assert_view(plan, E, (((1, 0), (3, 4), "a", "left"), ((3, 4), (3, -4), None, None),
                                   ((3, -4), (1, 0), "b", "right")))

    def test_behind_one_another(self):
        hidden = walls_of((2, -1, 2, 1), (4, -1, 4, 1))
        self.assert_view(hidden, E, (((2, 1), (2, -1), None, None), ((2, -1), (2, 1), "a", "left")))
        part = walls_of((2, -1, 2, 1), (4, 0, 4, 4))
        self.assert_view(part, E, (((2, 1), (1, 1), "b", "left"), ((1, 1), (2, -1), None, None),
                                   ((2, -1), (2, 1), "a", "left")))
        just = walls_of((2, -1, 2, 1), (4, -2, 4, 2))
        self.assert_view(just, E, (((2, 1), (2, -1), None, None), ((2, -1), (2, 1), "a", "left")))
        leaning = walls_of((2, -1, 2, 1), (2, 0, 5, 9))
        self.assert_view(leaning, E, (((2, 1), (5, 9), "b", "left"), ((5, 9), (2, -1), None, None),
                                      ((2, -1), (2, 1), "a", "left")))

    def test_an_arc_that_is_interrupted_in_one_direction_only(self):
        # The wall b is seen along its own line only, so it does not cut the arc of a.
        plan = walls_of((4, -1, 4, 3), (2, 1, 3, 1))
        self.assert_view(plan, (0, 1, 1), (((2, 1), (2, -1), None, None), ((2, -1), (2, 1), "a", "left")))
        self.assert_same(sees(plan, (0, 1, 1), (1, 0)), ((2, 1, 1), ("b",)))
        self.assert_same(walls_seen(plan, (0, 1, 1)), ("a",))
        # So does an end that lies on it, and one that is hidden.
        plan = walls_of((2, -1, 2, 1), (2, 0, 4, 0), (5, 1, 6, -1))
        self.assert_view(plan, E, (((2, 1), (2, -1), None, None), ((2, -1), (2, 1), "a", "left")))

    def test_an_arc_across_the_beginning(self):
        # The first arc is the one that begins first, not the one in which (1, 0) lies.
        plan = walls_of((2, -1, 2, 1), (-1, 2, 1, 2))
        self.assert_view(plan, E, (((2, 1), (1, 2), None, None), ((1, 2), (-1, 2), "b", "right"),
                                   ((-1, 2), (2, -1), None, None), ((2, -1), (2, 1), "a", "left")))
        # An arc that begins just at (1, 0) is the first one.
        self.assert_view(walls_of((2, 0, 2, 1)), E, (((1, 0), (2, 1), "a", "left"), ((2, 1), (1, 0), None, None)))
        self.assert_view(walls_of((2, -1, 2, 0)), E, (((1, 0), (2, -1), None, None), ((2, -1), (1, 0), "a", "left")))
        # An arc of one wall that an end at (1, 0) does not cut.
        plan = walls_of((2, -1, 2, 1), (3, 0, 4, 1))
        self.assert_view(plan, E, (((2, 1), (2, -1), None, None), ((2, -1), (2, 1), "a", "left")))

    def test_arcs_of_all_quarters(self):
        plan = walls_of((9, 1, 9, 2), (-1, 9, -2, 9), (-9, -1, -9, -2), (1, -9, 2, -9))
        self.assert_view(plan, E, (
            ((9, 1), (9, 2), "a", "left"), ((9, 2), (-1, 9), None, None), ((-1, 9), (-2, 9), "b", "left"),
            ((-2, 9), (-9, -1), None, None), ((-9, -1), (-9, -2), "c", "left"), ((-9, -2), (1, -9), None, None),
            ((1, -9), (2, -9), "d", "left"), ((2, -9), (9, 1), None, None)))
        plan = walls_of((9, 0, 9, 2), (0, 9, -2, 9), (-9, 0, -9, -2), (0, -9, 2, -9))
        self.assert_view(plan, E, (
            ((1, 0), (9, 2), "a", "left"), ((9, 2), (0, 1), None, None), ((0, 1), (-2, 9), "b", "left"),
            ((-2, 9), (-1, 0), None, None), ((-1, 0), (-9, -2), "c", "left"), ((-9, -2), (0, -1), None, None),
            ((0, -1), (2, -9), "d", "left"), ((2, -9), (1, 0), None, None)))

    def test_arcs_that_end_on_the_axes(self):
        quarters = [(1, 0), (0, 1), (-1, 0), (0, -1)]
        walls = [("abcd"[k], quarters[k], quarters[k - 3]) for k in range(4)]
        arcs = [(p, q, name, "left") for name, p, q in walls]
        self.assert_view(tuple(walls), E, tuple(arcs))
        self.assert_view(tuple(walls[:2]), E, (*arcs[:2], ((-1, 0), (1, 0), None, None)))
        self.assert_view(tuple(walls[1:3]), E, (*arcs[1:3], ((0, -1), (0, 1), None, None)))
        self.assert_view(tuple(walls[2:]), E, (((1, 0), (-1, 0), None, None), *arcs[2:]))
        self.assert_view((walls[3], walls[0]), E, (arcs[0], ((0, 1), (0, -1), None, None), arcs[3]))

    def test_empty_arcs_of_half_a_turn_and_more(self):
        self.assert_view(walls_of((-2, 1, 2, 1), (-2, 1, -2, 0), (2, 1, 2, 0)), E, (
            ((1, 0), (2, 1), "c", "right"), ((2, 1), (-2, 1), "a", "right"), ((-2, 1), (-1, 0), "b", "left"),
            ((-1, 0), (1, 0), None, None)))
        self.assert_view(walls_of((5, 0, 6, 1), (-5, 0, -6, 1)), E, (
            ((1, 0), (6, 1), "a", "left"), ((6, 1), (-6, 1), None, None), ((-6, 1), (-1, 0), "b", "right"),
            ((-1, 0), (1, 0), None, None)))
        self.assert_view(walls_of((5, 0, 6, -1), (-5, 0, -6, -1)), E, (
            ((1, 0), (-1, 0), None, None), ((-1, 0), (-6, -1), "b", "left"), ((-6, -1), (6, -1), None, None),
            ((6, -1), (1, 0), "a", "right")))

    def test_a_closed_room(self):
        room = walls_of((-2, -2, 2, -2), (2, -2, 2, 2), (2, 2, -2, 2), (-2, 2, -2, -2))
        inside = (((1, 1), (-1, 1), "c", "left"), ((-1, 1), (-1, -1), "d", "left"), ((-1, -1), (1, -1), "a", "left"),
                  ((1, -1), (1, 1), "b", "left"))
        self.assert_view(room, E, inside)
        # Nothing behind the walls of the room is seen.
        self.assert_view(room[:4] + (("out", (9, -9), (9, 9)),), E, inside)
        self.assert_view(room, (9, 0, 1), (((-7, 2), (-7, -2), "b", "right"), ((-7, -2), (-7, 2), None, None)))
        corner = walls_of((0, -2, 3, 1), (3, 1, -3, 1), (-3, 1, 0, -2))
        self.assert_view(corner, E, (((3, 1), (-3, 1), "b", "left"), ((-3, 1), (0, -1), "c", "left"),
                                     ((0, -1), (3, 1), "a", "left")))

    def test_eyes_with_w_above_1(self):
        self.assert_view(walls_of((2, -1, 2, 1)), (1, 1, 2), (
            ((3, 1), (1, -1), None, None), ((1, -1), (3, 1), "a", "left")))
        self.assert_view(P, (7, 0, 2), (
            ((1, 6), (-3, 2), None, None), ((-3, 2), (-3, -2), "a", "right"), ((-3, -2), (1, -6), None, None),
            ((1, -6), (1, 6), "b", "left")))

    def test_random(self):
        for chance, plan, tree, eye in random_cases(52, 200, 6, 5):
            found = view(plan, eye)
            self.assert_same(found, view_by_the_words(plan, eye))
            self.assert_defined(plan, eye, found)
            self.assert_same(is_view(plan, eye, found), True)
            self.assert_same(walls_seen(plan, eye), tuple(sorted({arc[2] for arc in found} - {None})))
            other = tuple(chance.sample(plan, len(plan)))
            self.assert_same(view(other, eye), found)
            names = [arc[2] for arc in view(backwards(plan, 2 ** len(plan) - 1), eye)]
            self.assert_same(names, [arc[2] for arc in found])


class ViewsByTheWalk(ViewCase):
    def test_every_order(self):
        chance = random.Random(53)
        for k in range(40):
            plan = random_plan(chance, 1 + k % 4, 4)
            eye = random_eye(chance, plan, 5)
            wanted = view_by_the_words(plan, eye)
            for order in permutations([wall[0] for wall in plan]):
                tree = built(plan, order)
                self.assert_same(view_by_walk(plan, tree, eye), wanted)
                self.assert_same(view_by_walk(plan, mirrored(tree, chance), eye), wanted)

    def test_further_lines(self):
        for chance, plan, tree, eye in random_cases(54, 150, 6, 5, 6):
            wanted = view_by_the_words(plan, eye)
            for one in (tree, mirrored(tree), mirrored(tree, chance)):
                self.assertTrue(is_tree(plan, one))
                self.assert_same(view_by_walk(plan, one, eye), wanted)

    def test_eyes_on_lines(self):
        plan = walls_of((1, 0, 2, 0), (3, -1, 3, 1), (0, 2, 0, 5), (-3, -3, -3, 3))
        for order in permutations("abcd"):
            tree = built(plan, order)
            for eye in [(0, 0, 1), (5, 0, 1), (0, 1, 1), (3, 7, 1), (-1, 0, 2), (3, 0, 4), (-7, 0, 1)]:
                wanted = view_by_the_words(plan, eye)
                self.assert_same(view_by_walk(plan, tree, eye), wanted)
                self.assert_same(view_by_walk(plan, mirrored(tree), eye), wanted)


class IsView(ViewCase):
    def test_arcs_in_another_sequence(self):
        for order in permutations(VIEW):
            self.assert_same(is_view(P, E, order), order == VIEW)
        for k in range(4):
            self.assert_same(is_view(P, E, VIEW[:k] + VIEW[k + 1:]), False)
            self.assert_same(is_view(P, E, VIEW[:k] + VIEW[k:k + 1] * 2 + VIEW[k + 1:]), False)
        self.assert_same(is_view(P, E, VIEW + (VIEW[0],)), False)

    def test_arcs_cut_in_two(self):
        cut = (((2, -1), (1, 0), "a", "left"), ((1, 0), (2, 1), "a", "left"))
        self.assert_same(is_view(P, E, VIEW[:3] + cut), False)
        self.assert_same(is_view(P, E, (cut[1], *VIEW[:3], cut[0])), False)
        self.assert_same(is_view((), E, (((1, 0), (-1, 0), None, None), ((-1, 0), (1, 0), None, None))), False)
        self.assert_same(is_view((), E, (((0, 1), (0, 1), None, None),)), False)
        self.assert_same(is_view((), E, ()), False)
        self.assert_same(is_view((), E, NOTHING), True)
        self.assert_same(is_view(P, E, NOTHING), False)

    def test_parts_changed(self):
        arc = VIEW[0]
        for other in [((2, 1), (4, 3), "a", "left"), ((2, 1), (4, 3), "b", "right"), ((2, 1), (4, 3), None, None),
                      ((2, 1), (4, 3), "b", None), ((4, 2), (4, 3), "b", "left"), ((2, 1), (8, 6), "b", "left"),
                      ((-2, -1), (4, 3), "b", "left"), ((2, 1), (5, 4), "b", "left"), ((2, True), (4, 3), "b", "left"),
                      ((2, 1), (4, 3), "c", "left"), ((2, 1), (4, 3), "b"), ((2, 1), (4, 3), "b", "left", None),
                      ([2, 1], (4, 3), "b", "left"), [*arc], None, "b", ((2, 1, 1), (4, 3, 1), "b", "left"), DEEP]:
            self.assert_same(is_view(P, E, (other, *VIEW[1:])), False)
        for thing in [list(VIEW), VIEW[::-1], dict(enumerate(VIEW)), (VIEW,), view(P, (9, 0, 1)), None]:
            self.assert_same(is_view(P, E, thing), False)
        for thing in [(((True, 0), (1, 0), None, None),), (((1, False), (1, 0), None, None),),
                      (((1, 0), (1, 0), False, None),), (((1, 0), (1, 0), None, False),),
                      (((1, 0), (1, 0), "a", None),), (((1, 0), (1, 0), None, "left"),), [*NOTHING]]:
            self.assert_same(is_view((), E, thing), False)

    def test_any_value(self):
        for thing in ODD:
            self.assert_same(is_view(P, E, thing), False)
            self.assert_same(is_view((), E, thing), False)
        for plan, wanted in [((), NOTHING), (P, VIEW)]:
            for thing in variants(wanted):
                self.assert_same(is_view(plan, E, thing), repr(thing) == repr(wanted))

    def test_the_value_is_left_as_it_was(self):
        thing = [list(arc) for arc in VIEW[::-1]] + [{"a": [2, 1]}]
        before = repr(thing)
        self.assert_same(is_view(P, E, thing), False)
        self.assert_same(is_view(P, E, tuple(thing)), False)
        self.assertEqual(repr(thing), before)

    def test_random(self):
        for chance, plan, _, eye in random_cases(55, 40, 5, 4, 0):
            found = view(plan, eye)
            for k, arc in enumerate(found):
                further = (arc[1], (arc[1][0] * 3 - arc[1][1], arc[1][1] * 3 + arc[1][0]), *arc[2:])
                back = (arc[1], arc[0], *arc[2:]) if len(found) > 1 else None
                for other in (further, (*arc[:2], "zz", "left"), back):
                    self.assert_same(is_view(plan, eye, found[:k] + (other,) + found[k + 1:]), False)


class Refusals(PromiseCase):
    CALLS = [(sees, ((1, 0),)), (sees, (None,)), (view, ()), (is_view, (VIEW,)), (is_view, (None,)), (walls_seen, ())]

    def test_bad_plans_come_first(self):
        for plan in [list(P), None, (P[0], P[0]), "", walls_of((0, 0, 2, 0), (1, -1, 1, 1))]:
            for function, more in self.CALLS:
                self.assert_error(BadPlan, plan, function, plan, E, *more)
                self.assert_error(BadPlan, plan, function, plan, None, *more)
            self.assert_error(BadPlan, plan, view_by_walk, plan, T, E)
            self.assert_error(BadPlan, plan, view_by_walk, plan, None, (0, 0))

    def test_bad_trees_come_next(self):
        for tree in [None, (), list(T), T[3], (turned(T[0]), *T[1:]), built(P[:1], ("a",)), DEEP]:
            self.assert_error(BadTree, tree, view_by_walk, P, tree, E)
            self.assert_error(BadTree, tree, view_by_walk, P, tree, (2, 0, 1))

    def test_bad_eyes_come_next(self):
        for eye in [None, (0, 0), (0, 0, 0), (0, 0, 2), (2, 4, 2), (1, 1, -1), [0, 0, 1], (0, 0, True), (0, "0", 1),
                    (2, 0, 1), (4, 1, 2), (4, 1, 1), (2, 1, 1), (4, -3, 1), (12, 8, 3), (0, 0, 1, 1), "eye", DEEP]:
            for function, more in self.CALLS:
                self.assert_error(BadEye, eye, function, P, eye, *more)
            self.assert_error(BadEye, eye, view_by_walk, P, T, eye)

    def test_bad_directions_come_last(self):
        for direction in [None, (0, 0), (2, 0), (0, -2), (4, 2), (-3, -3), [1, 0], (1,), (1, 0, 0), (True, 0),
                          (1, False), ("1", 0), (1, None), "10", ((1, 0),), DEEP, (BIG, BIG), {1: 0}, (0, 2 * BIG)]:
            self.assert_error(BadDirection, direction, sees, P, E, direction)
            self.assert_error(BadDirection, direction, sees, (), E, direction)
        for direction in ODD:
            if repr(direction) not in ["(1, 0)", "(0, 1)"]:
                self.assert_error(BadDirection, direction, sees, P, E, direction)


class Sizes(ViewCase):
    def test_nine_walls_and_forty_nodes(self):
        chance = random.Random(56)
        for size in (9, 60):
            plan = random_plan(chance, 9, size)
            tree = random_tree(chance, plan, 12, size)
            while not 30 <= nodes(tree) <= 40:
                tree = random_tree(chance, plan, chance.randint(5, 15), size)
            eye = random_eye(chance, plan, size)
            begin = time.process_time()
            found = view(plan, eye)
            self.assert_same(view_by_walk(plan, tree, eye), found)
            self.assert_same(is_view(plan, eye, found), True)
            self.assertLess(time.process_time() - begin, 4)
            self.assert_same(found, view_by_the_words(plan, eye))
            self.assert_defined(plan, eye, found)


if __name__ == "__main__":
    unittest.main()
