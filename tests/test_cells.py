"""[7.1] to [7.4], and the functions of eyeorder/cells.py."""

import random
import time
import unittest
from itertools import islice

from eyeorder import cells as module
from eyeorder.cells import cell_number, cells, is_box, judge_way, openings, way_holds
from eyeorder.errors import BadBox, BadCell, BadPlace, BadPlan, BadTree
from eyeorder.trees import built
from tests.oracles import mirrored, random_plan, random_tree, turned
from tests.promises import DEEP, ODD, P, PromiseCase, variants, walls_of
from tests.room_oracles import (
    cell_of, cells_by_the_words, chains_in_turn, filled, is_box_by_the_words, openings_by_the_words,
    random_closed_rooms, random_rooms, reached, way_holds_by_the_words,
)

BIG = 999999999999
T = built(P, ("a", "b"))
BOX = (-1, -5, 6, 5)
TABLE = ((0, 1, (2, -5, 1), (2, -1, 1)), (0, 1, (2, 1, 1), (2, 5, 1)), (1, 2, (4, -5, 1), (4, -3, 1)),
         (1, 2, (4, 3, 1), (4, 5, 1)))
BAD_PLANS = [list(P), None, (P[0], P[0]), "", walls_of((0, 0, 2, 0), (1, -1, 1, 1))]
BAD_TREES = [None, (), list(T), T[3], (turned(T[0]), *T[1:]), "tree", DEEP]
BAD_BOXES = [None, list(BOX), BOX[:3], BOX + (9,), (2, -5, 6, 5), (3, -5, 6, 5), (6, -5, -1, 5), (-1, -5, 4, 5),
             (-1, -3, 6, 5), (-1, -5, 6, 3), (-1, 5, 6, -5), (True, -5, 6, 5), (-1, -5, 6, "5"), DEEP, "box"]

# A closed room with a door of two wings, all of it on the lines x = 0, x = 4, y = 0 and y = 4.
ROOM = walls_of((0, 0, 4, 0), (4, 0, 4, 1), (4, 4, 4, 3), (4, 4, 0, 4), (0, 4, 0, 0))
AROUND = (-2, -2, 6, 6)


def node(line, left=None, right=None, pieces=()):
    return (line, pieces, left, right)


class CellCase(PromiseCase):
    def assert_cells(self, plan, tree, box, wanted):
        self.assert_same(is_box(plan, tree, box), True)
        self.assert_same(cells_by_the_words(tree, box), wanted)
        self.assert_same(cells(plan, tree, box), wanted)

    def assert_openings(self, plan, tree, box, wanted):
        self.assert_same(openings_by_the_words(plan, tree, box), wanted)
        self.assert_same(openings(plan, tree, box), wanted)


class DocumentExamples(CellCase):
    def test_the_two_walls(self):
        self.assert_same(
            [is_box(P, T, BOX), is_box(P, T, (2, -5, 6, 5)), cells(P, T, BOX)[1], openings(P, T, BOX),
             cell_number(P, T, BOX, (5, 0, 1)), judge_way(P, T, BOX, 0, 2)[0],
             way_holds(P, T, BOX, 0, 2, ("way", (1, 2)))],
            [True, False, ((2, -5, 1), (4, -5, 1), (4, 5, 1), (2, 5, 1)), TABLE, 2, "way", True])


class Interface(PromiseCase):
    def test_defined_in_this_file(self):
        for name in ["is_box", "cells", "cell_number", "openings", "judge_way", "way_holds"]:
            self.assertEqual(getattr(module, name).__module__, "eyeorder.cells")
            self.assertEqual(getattr(module, name).__name__, name)

    def test_parameters_by_name(self):
        self.assert_same(is_box(thing=BOX, tree=T, plan=P), True)
        self.assert_same(cells(box=BOX, tree=T, plan=P), cells(P, T, BOX))
        self.assert_same(cell_number(p=(5, 0, 1), box=BOX, tree=T, plan=P), 2)
        self.assert_same(openings(box=BOX, tree=T, plan=P), TABLE)
        self.assert_same(judge_way(j=2, i=0, box=BOX, tree=T, plan=P), judge_way(P, T, BOX, 0, 2))
        self.assert_same(way_holds(thing=("way", (1, 2)), j=2, i=0, box=BOX, tree=T, plan=P), True)


class Boxes(CellCase):
    def assert_box(self, plan, tree, thing, wanted):
        self.assertEqual(is_box_by_the_words(plan, tree, thing), wanted, "the test itself is wrong")
        self.assert_same(is_box(plan, tree, thing), wanted)

    def test_no_walls_and_no_lines(self):
        for box in [(0, 0, 1, 1), (-60, -60, 60, 60), (3, -9, 4, 9), (-BIG, -BIG, BIG, BIG), (BIG - 1, 0, BIG, 1)]:
            self.assert_box((), None, box, True)
        for box in [(0, 0, 0, 1), (0, 0, 1, 0), (0, 0, 0, 0), (1, 0, 0, 1), (0, 1, 1, 0), (5, 5, -5, -5)]:
            self.assert_box((), None, box, False)

    def test_walls_that_touch_the_border_are_not_inside(self):
        self.assert_box(P, T, (1, -4, 5, 4), True)
        for box in [(2, -4, 5, 4), (1, -3, 5, 4), (1, -4, 4, 4), (1, -4, 5, 3), (3, -4, 5, 4), (1, -2, 5, 4),
                    (1, -4, 3, 4), (1, -4, 5, 2), (10, 10, 20, 20)]:
            self.assert_box(P, T, box, False)
        for walls in [(0, 0, 1, 3), (1, 3, 0, 0), (0, 3, 1, 0), (1, 0, 0, 3)]:
            plan = walls_of(walls)
            tree = built(plan, ("a",))
            self.assert_box(plan, tree, (-1, -1, 2, 4), True)
            for box in [(0, -1, 2, 4), (-1, 0, 2, 4), (-1, -1, 1, 4), (-1, -1, 2, 3)]:
                self.assert_box(plan, tree, box, False)

    def test_a_tree_with_an_empty_cell_has_no_box(self):
        line, back = (1, 0, 0), (-1, 0, 0)
        for tree in [node(line, node(line)), node(line, node(back)), node(line, None, node(line)),
                     node(line, None, node(back)), node(line, node((1, 0, 1))), node(line, None, node((1, 0, -1))),
                     node(line, node((0, 1, 0), node((1, 1, 0)))), node(line, node((0, 1, 0), node(line))),
                     node(line, node((0, 1, 0), node((1, 1, 1)))), node((0, 1, 0), None, node(line, None, node(back)))]:
            for box in [(-1, -1, 1, 1), (-60, -60, 60, 60), (-BIG, -BIG, BIG, BIG)]:
                self.assert_box((), tree, box, False)
        self.assert_box((), node(line, node((-1, 0, 1))), (-1, -1, 2, 1), True)
        self.assert_box(P, (T[0], T[1], node(T[0]), T[3]), BOX, False)

    def test_cells_outside_of_the_box(self):
        tree = node((1, 0, -3))
        self.assert_box((), tree, (2, 0, 4, 1), True)
        for box in [(3, 0, 5, 1), (1, 0, 3, 1), (4, 0, 5, 1), (0, 0, 2, 1)]:
            self.assert_box((), tree, box, False)
        slope = node((1, 1, -3))
        for box, wanted in [((0, 0, 2, 2), True), ((0, 0, 1, 2), False), ((0, 0, 1, 3), True), ((1, 2, 3, 4), False),
                            ((0, 2, 3, 4), True), ((0, 0, 1, 1), False), ((2, 2, 3, 3), False)]:
            self.assert_box((), slope, box, wanted)

    def test_a_cell_that_has_a_point_or_a_segment_in_common(self):
        # The cell beyond both lines begins at (2, 2).
        corner = node((1, 0, -2), node((0, 1, -2)))
        for box, wanted in [((0, 0, 3, 3), True), ((0, 0, 2, 3), False), ((0, 0, 3, 2), False), ((0, 0, 2, 2), False),
                            ((-1, 1, 3, 3), True), ((2, 0, 3, 3), False), ((1, 2, 3, 3), False)]:
            self.assert_box((), corner, box, wanted)
        sharp = node((1, 0, 0), node((-1, 5, 0), None, node((1, 5, 0))))
        for box, wanted in [((-1, -1, 1, 1), True), ((-1, -1, 0, 1), False), ((-3, -3, 20, 20), True)]:
            self.assert_box((), sharp, box, wanted)

    def test_other_forms(self):
        for thing in BAD_BOXES + [(-1, -5, 6, 5.0), (-1, -5, 6, None), ((-1, -5), (6, 5)), {0: -1, 1: -5, 2: 6, 3: 5}]:
            self.assert_box(P, T, thing, False)
        self.assert_box((), None, (False, False, True, True), False)
        self.assert_box((), None, (0, 0, True, 1), False)

    def test_any_value(self):
        for thing in ODD:
            self.assert_same(is_box(P, T, thing), False)
            self.assert_same(is_box((), None, thing), repr(thing) == "(0, 0, 1, 1)")
        for plan, tree, box in [(P, T, BOX), ((), None, (0, 0, 1, 1)), ((), node((1, 1, 0)), (-1, -1, 1, 1))]:
            for thing in variants(box):
                self.assert_same(is_box(plan, tree, thing), is_box_by_the_words(plan, tree, thing))

    def test_the_value_is_left_as_it_was(self):
        thing = [[-1, -5], {"a": [6]}, 5]
        before = repr(thing)
        self.assert_same(is_box(P, T, thing), False)
        self.assert_same(is_box(P, T, tuple(thing)), False)
        self.assertEqual(repr(thing), before)

    def test_random_trees(self):
        chance = random.Random(71)
        hit = 0
        for k in range(150):
            plan = random_plan(chance, k % 5, 3)
            tree = random_tree(chance, plan, chance.randint(0, 3), 4)
            for _ in range(4):
                x, y = chance.randint(-6, 0), chance.randint(-6, 0)
                box = (x, y, chance.randint(x, 6), chance.randint(y, 6))
                wanted = is_box_by_the_words(plan, tree, box)
                hit += wanted
                self.assert_same(is_box(plan, tree, box), wanted)
        self.assertGreater(hit, 40)

    def test_a_tree_of_forty_nodes(self):
        tree = None
        for k in range(39):
            tree = node((1, 0, -k), None, tree)
        for box, wanted in [((-1, 0, 39, 1), True), ((0, 0, 39, 1), False), ((-1, 0, 38, 1), False)]:
            self.assert_same(is_box((), tree, box), wanted)
            self.assert_same(is_box((), node((0, 1, 3), tree), (box[0], -4, *box[2:])), wanted)
            self.assert_same(is_box((), node((1, 0, 1), tree), (box[0] - 1, *box[1:])), wanted)
            self.assert_same(is_box((), node((1, 0, 0), tree), (box[0] - 1, *box[1:])), False)

    def test_bad_plans_then_bad_trees(self):
        for plan in BAD_PLANS:
            self.assert_error(BadPlan, plan, is_box, plan, T, BOX)
            self.assert_error(BadPlan, plan, is_box, plan, 0, None)
        for tree in BAD_TREES:
            self.assert_error(BadTree, tree, is_box, P, tree, BOX)
            self.assert_error(BadTree, tree, is_box, P, tree, None)


class Polygons(CellCase):
    def test_one_cell_is_the_box(self):
        self.assert_cells((), None, (-1, 2, 3, 7), (((-1, 2, 1), (3, 2, 1), (3, 7, 1), (-1, 7, 1)),))

    def test_the_left_tree_comes_first(self):
        left, right = ((-1, -1, 1), (0, -1, 1), (0, 1, 1), (-1, 1, 1)), ((0, -1, 1), (1, -1, 1), (1, 1, 1), (0, 1, 1))
        self.assert_cells((), node((-1, 0, 0)), (-1, -1, 1, 1), (left, right))
        self.assert_cells((), node((1, 0, 0)), (-1, -1, 1, 1), (right, left))

    def test_the_order_of_three_and_four(self):
        tree = node((0, 1, 0), node((1, 0, 0)), node((1, 0, 1), None, node((1, 0, 2))))
        found = cells((), tree, (-4, -1, 4, 1))
        self.assert_same([shape[0] for shape in found],
                         [(0, 0, 1), (-4, 0, 1), (-1, -1, 1), (-2, -1, 1), (-4, -1, 1)])
        self.assert_cells((), tree, (-4, -1, 4, 1), found)

    def test_lines_through_corners_of_the_box(self):
        self.assert_cells((), node((1, -1, 0)), (0, 0, 2, 2), (
            ((0, 0, 1), (2, 0, 1), (2, 2, 1)), ((0, 0, 1), (2, 2, 1), (0, 2, 1))))
        self.assert_cells((), node((2, 1, -2)), (0, 0, 2, 2), (
            ((0, 2, 1), (1, 0, 1), (2, 0, 1), (2, 2, 1)), ((0, 0, 1), (1, 0, 1), (0, 2, 1))))

    def test_the_least_corner_is_that_of_the_triples(self):
        # The triples are not in the order of the points: (1, 0, 1) comes before (1, 0, 3), which is to its left.
        tree = node((2, 0, -1))
        found = cells((), tree, (-1, -1, 1, 1))
        self.assert_same(found[0], ((1, -2, 2), (1, -1, 1), (1, 1, 1), (1, 2, 2)))
        self.assert_same(found[1], ((-1, -1, 1), (1, -2, 2), (1, 2, 2), (-1, 1, 1)))
        self.assert_cells((), tree, (-1, -1, 1, 1), found)
        tree = node((3, 0, -1))
        self.assert_cells((), tree, (0, 0, 1, 2), (
            ((1, 0, 1), (1, 2, 1), (1, 6, 3), (1, 0, 3)), ((0, 0, 1), (1, 0, 3), (1, 6, 3), (0, 2, 1))))

    def test_corners_with_w_above_1(self):
        tree = node((3, -1, 0), node((1, 3, -3)))
        found = cells((), tree, (-1, -1, 2, 2))
        self.assertIn((3, 9, 10), found[0])
        self.assertIn((3, 9, 10), found[1])
        # The line of the first node goes on below: the cell on its other side has no corner there.
        self.assert_same(found[2], ((-1, -3, 3), (2, 6, 3), (-1, 2, 1), (-1, -1, 1)))
        self.assert_cells((), tree, (-1, -1, 2, 2), found)

    def test_three_lines_through_one_place(self):
        tree = node((1, 0, 0), node((0, 1, 0), node((1, -1, 0))), node((0, 1, 0), None, node((1, -1, 0))))
        found = cells_by_the_words(tree, (-2, -2, 2, 2))
        self.assertEqual(len([shape for shape in found if (0, 0, 1) in shape]), 6)
        self.assert_cells((), tree, (-2, -2, 2, 2), found)

    def test_none_at_which_the_border_does_not_turn(self):
        tree = node((1, 0, 0), None, node((0, 1, 0), None, node((0, 1, 1))))
        found = cells((), tree, (-3, -3, 3, 3))
        self.assert_same(found[0], ((0, -3, 1), (3, -3, 1), (3, 3, 1), (0, 3, 1)))
        self.assert_cells((), tree, (-3, -3, 3, 3), found)

    def test_random(self):
        chance = random.Random(72)
        for k in range(150):
            plan, tree, box = random_rooms(chance, 1 + k % 9, k % 5, chance.choice([3, 5, 12, 58]))
            for one in (tree, mirrored(tree), mirrored(tree, chance)):
                self.assert_cells(plan, one, box, cells_by_the_words(one, box))


class Numbers(CellCase):
    def test_inside_of_each_cell(self):
        for p, wanted in [((0, 0, 1), 0), ((3, 2, 2), 0), ((3, 0, 1), 1), ((7, -9, 2), 1), ((5, 0, 1), 2),
                          ((59, 49, 10), 2)]:
            self.assert_same(cell_number(P, T, BOX, p), wanted)
        self.assert_same(cell_number((), None, (0, 0, 1, 1), (1, 1, 2)), 0)

    def test_on_lines_on_their_way(self):
        for p in [(2, 0, 1), (2, 4, 1), (4, 0, 1), (8, 3, 2)]:
            self.assert_same(cell_number(P, T, BOX, p), None)

    def test_on_the_border_and_outside(self):
        for p in [(-1, 0, 1), (6, 0, 1), (0, -5, 1), (0, 5, 1), (-1, -5, 1), (6, 5, 1), (-1, 5, 1), (6, -5, 1),
                  (-2, 0, 1), (7, 0, 1), (0, -6, 1), (0, 6, 1), (13, 0, 2), (-3, 0, 2), (0, 11, 2), (0, -11, 2),
                  (BIG, 1, 1)]:
            self.assert_same(cell_number(P, T, BOX, p), None)
        for p in [(-1, 0, 2), (11, 0, 2), (0, 9, 2), (0, -9, 2)]:
            self.assertIsNotNone(cell_number(P, T, BOX, p))

    def test_on_a_line_that_is_not_on_its_way(self):
        tree = node((0, 1, 0), node((1, 0, 0)), node((1, 0, -1)))
        box = (-3, -3, 3, 3)
        for p, wanted in [((1, 2, 1), 0), ((-1, 2, 1), 1), ((0, -2, 1), 3), ((2, -2, 1), 2), ((0, 2, 1), None),
                          ((1, -2, 1), None), ((2, 0, 1), None)]:
            self.assert_same(cell_number((), tree, box, p), wanted)

    def test_random(self):
        chance = random.Random(73)
        for k in range(36):
            plan, tree, box = random_rooms(chance, 1 + k % 9, 3, chance.choice([2, 3, 4]))
            for x in range(box[0] - 1, box[2] + 2):
                for y in range(box[1] - 1, box[3] + 2):
                    for p in [(x, y, 1), (3 * x - 1, 3 * y + 1, 3)]:
                        self.assert_same(cell_number(plan, tree, box, p), cell_of(tree, box, p))

    def test_bad_places_come_last(self):
        bad = [None, (0, 0), (0, 0, 0), (0, 0, 2), (2, 4, 6), (1, 1, -1), [0, 0, 1], (0, 0, True), (True, 0, 1),
               (0, 0, 1, 1), "001", (0, None, 1), DEEP]
        for p in bad:
            self.assert_error(BadPlace, p, cell_number, P, T, BOX, p)
            self.assert_error(BadPlace, p, cell_number, (), None, (0, 0, 1, 1), p)
            self.assert_error(BadBox, (2, -5, 6, 5), cell_number, P, T, (2, -5, 6, 5), p)
        for p in ODD:
            if repr(p) != "(0, 0, 1)":
                self.assert_error(BadPlace, p, cell_number, P, T, BOX, p)


class Openings(CellCase):
    def test_no_lines(self):
        self.assert_openings((), None, (0, 0, 1, 1), ())

    def test_a_line_without_walls(self):
        box = (-1, -1, 1, 1)
        self.assert_openings((), node((1, 0, 0)), box, ((0, 1, (0, 1, 1), (0, -1, 1)),))
        self.assert_openings((), node((-1, 0, 0)), box, ((0, 1, (0, -1, 1), (0, 1, 1)),))
        self.assert_openings((), node((0, 1, 0)), box, ((0, 1, (-1, 0, 1), (1, 0, 1)),))
        self.assert_openings((), node((2, 2, -1)), box, ((0, 1, (-1, 2, 2), (2, -1, 2)),))

    def test_cells_that_touch_at_a_point_only(self):
        tree = node((1, 0, 0), node((0, 1, 0)), node((0, 1, 0)))
        self.assert_openings((), tree, (-1, -1, 1, 1), (
            (0, 1, (0, 0, 1), (1, 0, 1)), (0, 2, (0, 1, 1), (0, 0, 1)), (1, 3, (0, 0, 1), (0, -1, 1)),
            (2, 3, (-1, 0, 1), (0, 0, 1))))

    def test_cells_that_border_in_part(self):
        tree = node((0, 1, 0), node((-1, 0, 0)), node((-1, 0, 1)))
        self.assert_openings((), tree, (-4, -1, 4, 1), (
            (0, 1, (0, 0, 1), (0, 1, 1)), (0, 2, (-4, 0, 1), (0, 0, 1)), (1, 2, (0, 0, 1), (1, 0, 1)),
            (1, 3, (1, 0, 1), (4, 0, 1)), (2, 3, (1, -1, 1), (1, 0, 1))))

    def row(self, *spans):
        """Openings of walls with these spans on the axis, with the axis as the line and with it reversed."""
        plan = walls_of(*[(x, 0, u, 0) for x, u in spans])
        pieces = tuple((name, (*p, 1), (*q, 1)) for name, p, q in plan)
        box = (-6, -1, 6, 1)
        table = openings(plan, node((0, 1, 0), pieces=pieces), box)
        self.assert_openings(plan, node((0, 1, 0), pieces=pieces), box, table)
        self.assert_openings(plan, node((0, -1, 0), pieces=pieces), box,
                             tuple(sorted((i, j, q, p) for i, j, p, q in table)))
        return [(p[0], q[0]) for i, j, p, q in table]

    def test_walls_on_the_border(self):
        self.assertEqual(self.row(), [(-6, 6)])
        self.assertEqual(self.row((-2, 3)), [(-6, -2), (3, 6)])
        self.assertEqual(self.row((3, -2)), [(-6, -2), (3, 6)])
        self.assertEqual(self.row((3, 1), (-5, -2)), [(-6, -5), (-2, 1), (3, 6)])
        self.assertEqual(self.row((-5, -4), (0, 1), (-3, -1), (5, 3)), [(-6, -5), (-4, -3), (-1, 0), (1, 3), (5, 6)])
        self.assertEqual(self.row((1, 3), (-2, 1)), [(-6, -2), (3, 6)])
        self.assertEqual(self.row((1, 3), (1, -2), (3, 4)), [(-6, -2), (4, 6)])

    def test_a_border_that_is_covered_wholly(self):
        # The cells 2 and 3 between x = 0 and x = 4 border along a wall that just covers, or reaches beyond.
        axis = [(0, 1, 0), None, None]
        lines, box = [(1, 0, -4), axis, [(1, 0, 0), axis, axis]], (-3, -3, 8, 3)
        for x, u, wanted in [(0, 4, 0), (4, 0, 0), (-1, 4, 0), (0, 5, 0), (5, -1, 0), (1, 4, 1), (0, 3, 1), (6, 1, 1),
                             (1, 3, 2), (4, 6, 1), (-2, 0, 1), (-2, -1, 1)]:
            plan = walls_of((x, 0, u, 0))
            tree = filled(lines, plan)
            table = openings(plan, tree, box)
            self.assert_openings(plan, tree, box, table)
            self.assertEqual(len([row for row in table if row[:2] == (2, 3)]), wanted)

    def test_a_wall_up_to_the_border_of_its_cell(self):
        plan = walls_of((0, 0, 2, 0))
        tree = node((1, 0, 0), node((0, 1, 0), pieces=(("a", (0, 0, 1), (2, 0, 1)),)))
        self.assert_openings(plan, tree, (-1, -1, 3, 1), (
            (0, 1, (2, 0, 1), (3, 0, 1)), (0, 2, (0, 1, 1), (0, 0, 1)), (1, 2, (0, 0, 1), (0, -1, 1))))

    def test_walls_that_end_on_the_line(self):
        # Walls end on the line x = 0 at (0, 1) from the one side, at (0, -1) from both sides.
        plan = walls_of((0, 1, 2, 1), (-2, -1, 0, -1), (0, -1, 2, -1))
        for sign in (1, -1):
            tree = built(plan + (("zero", (0, 7), (0, 8)),), ("zero", "a", "b", "c"))
            tree = (tree[0], (), tree[2], tree[3])
            if sign < 0:
                tree = mirrored(tree)
            table = openings(plan, tree, (-3, -3, 3, 3))
            self.assert_openings(plan, tree, (-3, -3, 3, 3), table)
            across = [(p, q) for i, j, p, q in table if p[0] == q[0] == 0]
            spans = [tuple(sorted(y for _, y, _ in pair)) for pair in across]
            self.assertEqual(sorted(spans), [(-3, -1), (-1, 1), (1, 3)])

    def test_a_wall_that_is_cut_into_pieces(self):
        plan = walls_of((-2, 0, 3, 0))
        left, right = ("a", (0, 0, 1), (3, 0, 1)), ("a", (-2, 0, 1), (0, 0, 1))
        tree = node((1, 0, 0), node((0, 1, 0), pieces=(left,)), node((0, 1, 0), pieces=(right,)))
        self.assert_openings(plan, tree, (-4, -1, 4, 1), (
            (0, 1, (3, 0, 1), (4, 0, 1)), (0, 2, (0, 1, 1), (0, 0, 1)), (1, 3, (0, 0, 1), (0, -1, 1)),
            (2, 3, (-4, 0, 1), (-2, 0, 1))))

    def test_a_closed_room_with_a_door(self):
        tree = built(ROOM, ("a", "b", "d", "e", "c"))
        table = openings(ROOM, tree, AROUND)
        self.assert_openings(ROOM, tree, AROUND, table)
        self.assertEqual(len([row for row in table if {row[2], row[3]} == {(4, 1, 1), (4, 3, 1)}]), 1)

    def test_ends_with_w_above_1(self):
        tree = node((3, -1, 0), node((1, 3, -3)), node((2, 2, -1)))
        table = openings((), tree, (-1, -1, 2, 2))
        self.assertTrue(any(p[2] > 1 and q[2] > 1 for _, _, p, q in table))
        self.assert_openings((), tree, (-1, -1, 2, 2), table)

    def test_random(self):
        chance = random.Random(74)
        parted = 0
        for k in range(200):
            plan, tree, box = random_rooms(chance, 2 + k % 8, k % 10, chance.choice([3, 5, 12, 58]))
            for one in (tree, mirrored(tree, chance)):
                table = openings(plan, one, box)
                self.assert_openings(plan, one, box, table)
                self.assertEqual(list(table), sorted(set(table)))
                parted += len(table) - len({row[:2] for row in table})
        self.assertGreater(parted, 60)


class Ways(CellCase):
    def assert_ways(self, plan, tree, box):
        table = openings(plan, tree, box)
        many = len(cells(plan, tree, box))
        shut = 0
        for i in range(many):
            reach = reached(table, i)
            for j in range(many):
                found = judge_way(plan, tree, box, i, j)
                self.assertEqual(found[0], "way" if j in reach else "shut")
                shut += j not in reach
                self.assertTrue(way_holds_by_the_words(table, many, i, j, found))
                self.assert_same(way_holds(plan, tree, box, i, j, found), True)
                if (i + 2 * j) % 3:
                    continue
                things = [("way", chain) for chain, _ in islice(chains_in_turn(table, i), 12)]
                things += [("shut", tuple(reach)), ("shut", (i,)), ("shut", tuple(k for k in range(many) if k != j))]
                things += [("way", found[1]), ("shut", found[1]), ("shut", ()), ("way", ())]
                for thing in things:
                    self.assert_same(way_holds(plan, tree, box, i, j, thing),
                                     way_holds_by_the_words(table, many, i, j, thing))
        return shut

    def test_the_same_cell(self):
        for i in range(3):
            self.assert_same(judge_way(P, T, BOX, i, i), ("way", ()))
            for thing in [("way", (0, 1)), ("way", (1, 0)), ("way", (2, 3)), ("shut", (i,)), ("shut", ()),
                          ("shut", (0, 1, 2)), ("way", (0,))]:
                self.assert_same(way_holds(P, T, BOX, i, i, thing), False)
            self.assert_same(way_holds(P, T, BOX, i, i, ("way", ())), True)
        self.assert_same(judge_way((), None, (0, 0, 1, 1), 0, 0), ("way", ()))

    def test_ways_and_what_is_none(self):
        for told, wanted in [((0, 2), True), ((1, 2), True), ((0, 3), True), ((1, 3), True), ((2, 0), False),
                             ((), False), ((0,), False), ((2,), False), ((0, 2, 2), False), ((0, 1), False),
                             ((0, 1, 0, 2), False), ((0, 2, 3), False), ((0, 4), False), ((4, 2), False),
                             ((0, -1), False), ((-4, 2), False), ((-4, -2), False), ((False, 2), False),
                             ((0, 2, None), False), ((True, 2), False), ([0, 2], False), (("0", "2"), False),
                             (0, False), (None, False), ({0: 0, 1: 2}, False), (((0, 2),), False), ((0, BIG), False)]:
            self.assert_same(way_holds(P, T, BOX, 0, 2, ("way", told)), wanted)
            self.assert_same(way_holds(P, T, BOX, 0, 2, ("shut", told)), False)

    def test_a_longer_way_than_the_shortest_one(self):
        tree = node((1, 0, 0), node((0, 1, 0)), node((0, 1, 0)))
        box = (-1, -1, 1, 1)
        # The openings: 0 between 0 and 1, 1 between 0 and 2, 2 between 1 and 3, 3 between 2 and 3.
        for told, wanted in [((0,), True), ((1, 3, 2), True), ((1, 3), False), ((1, 3, 2, 0), False),
                             ((1, 1, 0), False), ((0, 0, 0), False), ((0, 2, 3, 1, 0), False)]:
            self.assert_same(way_holds((), tree, box, 0, 1, ("way", told)), wanted)
        self.assert_ways((), tree, box)

    def test_cells_that_are_shut_off(self):
        closed = walls_of((0, 0, 4, 0), (4, 0, 4, 4), (4, 4, 0, 4), (0, 4, 0, 0))
        tree = built(closed, ("a", "b", "c", "d"))
        # The cell inside is on the left of all four lines, which go round it counterclockwise.
        self.assert_same(cell_number(closed, tree, AROUND, (1, 1, 1)), 0)
        self.assert_same(judge_way(closed, tree, AROUND, 0, 1), ("shut", (0,)))
        self.assertEqual(judge_way(closed, tree, AROUND, 3, 0)[0], "shut")
        for told, wanted in [((0,), True), ((), False), ((0, 1), False), ((0, 2), False), ((0, 2, 3), False),
                             ((0, 2, 3, 4), False), ((0, 0), False), ((False,), False), ([0], False), ((0, 5), False),
                             ((0, -1), False), ((1,), False), ((0, None), False), ({0: 0}, False), ("0", False)]:
            self.assert_same(way_holds(closed, tree, AROUND, 0, 1, ("shut", told)), wanted)
        for told, wanted in [((1, 2, 3, 4), True), ((4, 3, 2, 1), False), ((1, 2, 3), False), ((2, 3, 4), False),
                             ((1, 1, 2, 3, 4), False), ((0, 1, 2, 3, 4), False), ((1, 2, 3, 4, 5), False),
                             ((True, 2, 3, 4), False), ([1, 2, 3, 4], False), ((2, 1, 3, 4), False)]:
            self.assert_same(way_holds(closed, tree, AROUND, 1, 0, ("shut", told)), wanted)
        table = openings(closed, tree, AROUND)
        for thing in variants(("shut", (0,))):
            self.assert_same(way_holds(closed, tree, AROUND, 0, 1, thing),
                             way_holds_by_the_words(table, 5, 0, 1, thing))
        for kind in ["Shut", "shut ", "way", "hidden", "", None, True, ("shut",), ["shut"]]:
            self.assert_same(way_holds(closed, tree, AROUND, 0, 1, (kind, (0,))), False)
        self.assertGreater(self.assert_ways(closed, tree, AROUND), 0)
        self.assertEqual(self.assert_ways(ROOM, built(ROOM, ("a", "b", "d", "e", "c")), AROUND), 0)

    def test_two_parts_that_are_shut_off(self):
        # Cells 0 and 2 are closed rooms side by side, so a set may contain both, or one.
        plan = walls_of((0, 0, 4, 0), (4, 0, 4, 2), (4, 2, 0, 2), (0, 2, 0, 0), (2, 0, 2, 2))
        tree = built(plan, ("a", "b", "c", "d", "e"))
        box = (-1, -1, 5, 3)
        self.assertGreater(self.assert_ways(plan, tree, box), 0)
        for told, wanted in [((0,), True), ((0, 1), True), ((0, 2), False), ((0, 3), False)]:
            self.assert_same(way_holds(plan, tree, box, 0, 2, ("shut", told)), wanted and 2 not in told)

    def test_any_value(self):
        for thing in ODD:
            for i, j in [(0, 2), (1, 1), (2, 0)]:
                self.assert_same(way_holds(P, T, BOX, i, j, thing), False)
        for good in [("way", (1, 2)), ("way", (0, 3)), ("shut", (0, 1))]:
            for thing in variants(good):
                self.assert_same(way_holds(P, T, BOX, 0, 2, thing), way_holds_by_the_words(TABLE, 3, 0, 2, thing))
        for thing in [("seen", (1, 2)), ("way", (1, 2), None), ("way",), ["way", (1, 2)], ("Way", (1, 2)),
                      (("way", (1, 2)),), {"way": (1, 2)}, ("shut", (0,)), (None, (1, 2)), (("way",), (1, 2))]:
            self.assert_same(way_holds(P, T, BOX, 0, 2, thing), False)

    def test_the_value_is_left_as_it_was(self):
        for thing in [["way", [1, 2]], ("way", [1, {"a": [2]}]), ("shut", [0, 1])]:
            before = repr(thing)
            self.assert_same(way_holds(P, T, BOX, 0, 2, thing), False)
            self.assertEqual(repr(thing), before)

    def test_random(self):
        chance = random.Random(75)
        for k in range(40):
            self.assert_ways(*random_rooms(chance, 2 + k % 5, 9, chance.choice([2, 3, 5])))

    def test_random_closed_rooms(self):
        chance = random.Random(76)
        shut = 0
        for _ in range(15):
            shut += self.assert_ways(*random_closed_rooms(chance, 9, 4))
        self.assertGreater(shut, 100)

    def test_bad_cells(self):
        for i in [-1, 3, BIG, True, False, None, "0", (0,), [0], {}, DEEP]:
            for function, more in [(judge_way, ()), (way_holds, (("way", (1, 2)),)), (way_holds, (None,))]:
                self.assert_error(BadCell, i, function, P, T, BOX, i, 0, *more)
                self.assert_error(BadCell, i, function, P, T, BOX, 2, i, *more)
                self.assert_error(BadCell, i, function, P, T, BOX, i, "x", *more)
                self.assert_error(BadCell, "x", function, P, T, BOX, "x", i, *more)
        for i in ODD:
            if type(i) is not int or not 0 <= i < 3:
                self.assert_error(BadCell, i, judge_way, P, T, BOX, 0, i)
                self.assert_error(BadCell, i, judge_way, P, T, BOX, i, i)
        self.assert_error(BadCell, 1, judge_way, (), None, (0, 0, 1, 1), 0, 1)


class BoxRefusals:
    """The refusals of functions of a plan, a tree and a box; CALLS are such functions, with further arguments."""

    def test_bad_plans_come_first(self):
        for plan in BAD_PLANS:
            for function, more in self.CALLS:
                self.assert_error(BadPlan, plan, function, plan, T, BOX, *more)
                self.assert_error(BadPlan, plan, function, plan, None, None, *more)

    def test_bad_trees_come_next(self):
        for tree in BAD_TREES:
            for function, more in self.CALLS:
                self.assert_error(BadTree, tree, function, P, tree, BOX, *more)
                self.assert_error(BadTree, tree, function, P, tree, None, *more)

    def test_bad_boxes_come_next(self):
        for box in BAD_BOXES:
            for function, more in self.CALLS:
                self.assert_error(BadBox, box, function, P, T, box, *more)
        for box in ODD:
            for function, more in self.CALLS:
                if repr(box) != "(0, 0, 1, 1)":
                    self.assert_error(BadBox, box, function, (), None, box, *more)
        empty = node((1, 0, 0), node((1, 0, 0)))
        for function, more in self.CALLS:
            self.assert_error(BadBox, (-5, -5, 5, 5), function, (), empty, (-5, -5, 5, 5), *more)


class Refusals(BoxRefusals, PromiseCase):
    CALLS = [(cells, ()), (openings, ()), (cell_number, ((5, 0, 1),)), (cell_number, (None,)), (judge_way, (0, 2)),
             (judge_way, (None, 7)), (way_holds, (0, 2, None)), (way_holds, (True, 2, ("way", ())))]


class Sizes(CellCase):
    def test_nine_cells(self):
        chance = random.Random(77)
        for _ in range(5):
            plan, tree, box = random_rooms(chance, 9, 9, 58)
            begin = time.process_time()
            for j in range(9):
                found = judge_way(plan, tree, box, 0, j)
                self.assert_same(way_holds(plan, tree, box, 0, j, found), True)
            self.assertLess(time.process_time() - begin, 2)


if __name__ == "__main__":
    unittest.main()
