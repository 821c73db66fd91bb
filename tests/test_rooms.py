"""[8.1] to [8.6], and the functions of eyeorder/rooms.py."""

import random
import time
import unittest
from itertools import combinations, islice

from eyeorder import rooms
from eyeorder.cells import cell_number, cells, openings
from eyeorder.errors import BadCell, BadChain
from eyeorder.rooms import chain_holds, judge_chain, judge_seen, seen_from, seen_holds
from eyeorder.trees import built
from eyeorder.views import walls_seen
from tests.oracles import mirrored
from tests.promises import DEEP, ODD, P, PromiseCase, variants, walls_of
from tests.room_oracles import (
    all_bars, chain_holds_by_the_words, chains_from, chains_in_turn, common_border, corners_by_the_words,
    open_chains, polygons, random_closed_rooms, random_rooms, reached, route_of, seen_by_the_words,
    seen_holds_by_the_words, sides,
)
from tests.test_cells import BIG, BOX, T, BoxRefusals, node
from tests.test_walks import random_eye

# Four strips from left to right, with doors that are low, high and low in the walls on the lines between them.
DOORS = walls_of((2, -9, 2, 0), (2, 1, 2, 9), (4, -9, 4, 5), (4, 6, 4, 9), (6, -9, 6, 0), (6, 1, 6, 9))
STRIPS = built(DOORS, ("a", "c", "e", "b", "d", "f"))
HALL = (0, -10, 8, 10)
# The openings 0, 3 and 6 are below the walls, 1, 4 and 7 the doors, 2, 5 and 8 above the walls.
DOOR_TABLE = tuple((k // 3, k // 3 + 1, (x, low, 1), (x, high, 1)) for k, (x, low, high) in enumerate([
    (2, -10, -9), (2, 0, 1), (2, 9, 10), (4, -10, -9), (4, 5, 6), (4, 9, 10), (6, -10, -9), (6, 0, 1), (6, 9, 10)]))

# The quarters 0 to 3 about (0, 0), with the cell 4 below all of them and the cell 5 to their left.
QUARTERS = node((1, 0, 5), node((0, 1, 5), node((1, 0, 0), node((0, 1, 0)), node((0, 1, 0)))))
SQUARE = (-7, -7, 7, 7)


def hall(*rows):
    """A plan, a tree and a box of strips between walls above and below, with walls (x, low, high) on their borders.

    The cells are 0 above, the strips from left to right, and the last one below.
    """
    width = max(rows)[0]
    upright = walls_of(*[(x, low, x, high) for x, low, high in rows])
    caps = (("y", (1, 9), (width + 1, 9)), ("z", (width + 1, -9), (1, -9)))
    tree = None
    for at in sorted({x for x, _, _ in rows}, reverse=True):
        pieces = tuple((name, (*p, 1), (*q, 1)) for name, p, q in upright if p[0] == at)
        tree = node((-1, 0, at), None, tree, pieces)
    above, below = [((name, (*p, 1), (*q, 1)),) for name, p, q in caps]
    tree = node((0, 1, -9), None, node((0, 1, 9), tree, None, below), above)
    return upright + caps, tree, (0, -10, width + 2, 10)


def chain_between(table, *route):
    """The chain through the first openings between these cells."""
    return tuple([k for k, row in enumerate(table) if set(row[:2]) == {one, other}][0]
                 for one, other in zip(route, route[1:]))


class RoomCase(PromiseCase):
    def assert_line(self, plan, tree, box, i, chain):
        kind, line = judge_chain(plan, tree, box, i, chain)
        self.assertEqual(kind, "line")
        table = openings(plan, tree, box)
        self.assertTrue(chain_holds_by_the_words(table, i, chain, (kind, line)))
        self.assert_same(chain_holds(plan, tree, box, i, chain, (kind, line)), True)
        for bad in [tuple(-n for n in line), tuple(2 * n for n in line), list(line), (*line, 0), line[:2]]:
            self.assert_same(chain_holds(plan, tree, box, i, chain, ("line", bad)), False)
        self.assertEqual(list(all_bars(*corners_by_the_words(table, i, chain))), [])

    def assert_bar(self, plan, tree, box, i, chain):
        found = judge_chain(plan, tree, box, i, chain)
        self.assertEqual([found[0], len(found)], ["bar", 3])
        table = openings(plan, tree, box)
        self.assertTrue(chain_holds_by_the_words(table, i, chain, found))
        self.assert_same(chain_holds(plan, tree, box, i, chain, found), True)
        for thing in [("bar", found[2], found[1]), ("bar", found[1][::-1], found[2][::-1]), ("line", found[1][0])]:
            self.assert_same(chain_holds(plan, tree, box, i, chain, thing),
                             chain_holds_by_the_words(table, i, chain, thing))

    def assert_seen(self, plan, tree, box, i, j):
        found = judge_seen(plan, tree, box, i, j)
        self.assertEqual(found[0], "seen")
        self.assertTrue(seen_holds_by_the_words(openings(plan, tree, box), i, j, found))
        self.assert_same(seen_holds(plan, tree, box, i, j, found), True)
        self.assertIn(j, seen_from(plan, tree, box, i))
        return found

    def assert_hidden(self, plan, tree, box, i, j):
        found = judge_seen(plan, tree, box, i, j)
        self.assertEqual(found[0], "hidden")
        self.assertTrue(seen_holds_by_the_words(openings(plan, tree, box), i, j, found))
        self.assert_same(seen_holds(plan, tree, box, i, j, found), True)
        self.assertNotIn(j, seen_from(plan, tree, box, i))
        return found

    def assert_sights(self, plan, tree, box):
        """Each cell sees just the cells to which an open chain leads; the table and these chains are returned."""
        table = openings(plan, tree, box)
        chains = open_chains(plan, tree, box, table)
        many = len(cells(plan, tree, box))
        for i in range(many):
            seen = seen_by_the_words(table, chains, i)
            self.assert_same(seen_from(plan, tree, box, i), seen)
            for j in range(many):
                (self.assert_seen if j in seen else self.assert_hidden)(plan, tree, box, i, j)
        return table, chains


class DocumentExamples(RoomCase):
    def test_the_two_walls(self):
        self.assert_same(
            [judge_chain(P, T, BOX, 0, (1, 3))[0], chain_holds(P, T, BOX, 0, (1, 3), ("line", (0, 1, -4))),
             chain_holds(P, T, BOX, 0, (1, 3), ("line", (0, -1, 4))), seen_from(P, T, BOX, 0),
             judge_seen(P, T, BOX, 2, 2), seen_holds(P, T, BOX, 0, 2, ("seen", (1, 3), (0, 1, -4)))],
            ["line", True, False, (0, 1, 2), ("seen", (), None), True])


class Interface(PromiseCase):
    def test_defined_in_this_file(self):
        for name in ["judge_chain", "chain_holds", "judge_seen", "seen_holds", "seen_from"]:
            self.assertEqual(getattr(rooms, name).__module__, "eyeorder.rooms")
            self.assertEqual(getattr(rooms, name).__name__, name)

    def test_parameters_by_name(self):
        told = judge_chain(P, T, BOX, 0, (1, 3))
        self.assert_same(judge_chain(chain=(1, 3), i=0, box=BOX, tree=T, plan=P), told)
        self.assert_same(chain_holds(thing=told, chain=(1, 3), i=0, box=BOX, tree=T, plan=P), True)
        told = judge_seen(P, T, BOX, 0, 2)
        self.assert_same(judge_seen(j=2, i=0, box=BOX, tree=T, plan=P), told)
        self.assert_same(seen_holds(thing=told, j=2, i=0, box=BOX, tree=T, plan=P), True)
        self.assert_same(seen_from(i=0, box=BOX, tree=T, plan=P), (0, 1, 2))


class Lines(RoomCase):
    def test_the_corners_of_one_opening_in_both_directions(self):
        # The opening 1 of the example is from (2, 1) to (2, 5), and the cell 0 is to the left of it: from 0 to 1
        # the end (2, 5) is the left corner, and so it has to be on the left of the line.
        self.assert_line(P, T, BOX, 0, (1,))
        self.assert_line(P, T, BOX, 1, (1,))
        for line, wanted in [((0, 1, -2), True), ((0, 1, -4), True), ((1, 1, -4), True), ((1, 20, -60), True),
                             ((0, 1, -1), False), ((0, 1, -5), False), ((0, 1, 0), False), ((0, 1, -6), False),
                             ((1, 1, -3), False), ((1, 0, -2), False), ((1, 0, 0), False)]:
            back = tuple(-n for n in line)
            self.assert_same([chain_holds(P, T, BOX, i, (1,), ("line", one)) for i in (0, 1) for one in (line, back)],
                             [wanted, False, False, wanted])

    def test_a_line_with_a_corner_on_it_does_not_hold(self):
        tree, box = node((1, 0, 0)), (-1, -1, 1, 1)
        for line, wanted in [((0, -1, 0), True), ((1, -1, 0), True), ((1, -2, 1), True), ((0, -2, 1), True),
                             ((0, -1, 1), False), ((0, -1, -1), False), ((1, -1, 1), False), ((5, -1, -1), False),
                             ((1, 0, 0), False), ((0, -1, 2), False), ((0, 1, 0), False)]:
            self.assert_same(chain_holds((), tree, box, 0, (0,), ("line", line)), wanted)
            self.assert_same(chain_holds((), tree, box, 1, (0,), ("line", tuple(-n for n in line))), wanted)

    def test_chains_of_all_cells(self):
        tree = None
        for k in range(8):
            tree = node((1, 0, -k), None, tree)
        for i, chain in [(0, tuple(range(8))), (8, tuple(range(7, -1, -1))), (3, (3, 4, 5)), (3, (2, 1))]:
            self.assert_line((), tree, (-1, 0, 8, 1), i, chain)
            self.assertEqual(len(route_of(openings((), tree, (-1, 0, 8, 1)), i, chain)), len(chain) + 1)
        self.assertEqual(len(self.assert_seen((), tree, (-1, 0, 8, 1), 0, 8)[1]), 8)

    def test_through_the_doors(self):
        self.assert_same(openings(DOORS, STRIPS, HALL), DOOR_TABLE)
        for i, chain in [(0, (1,)), (0, (1, 4)), (3, (7, 4)), (3, (7,)), (0, (0, 3, 6)), (0, (2, 5, 8)), (0, (1, 3)),
                         (3, (6, 3, 0)), (1, (4, 8))]:
            self.assert_line(DOORS, STRIPS, HALL, i, chain)
        for i, chain in [(0, (1, 4, 7)), (3, (7, 4, 1)), (0, (1, 5, 8)), (0, (2, 3, 8)), (3, (6, 5, 0)),
                         (0, (0, 5, 7))]:
            self.assert_bar(DOORS, STRIPS, HALL, i, chain)

    def test_other_lines(self):
        for line in [(0, 2, -8), (0, 1), (0, 1, -4, 0), [0, 1, -4], (0, True, -4), (False, 1, -4), (0, 0, 1), (0, 0, 0),
                     None, "line", (0, 1, None), ((0, 1, -4),), (0, "1", -4), {0: 0, 1: 1, 2: -4}, DEEP]:
            self.assert_same(chain_holds(P, T, BOX, 0, (1, 3), ("line", line)), False)
        for thing in [("line", (0, 1, -4), None), ("line",), ["line", (0, 1, -4)], ("Line", (0, 1, -4)), (0, 1, -4),
                      ("bar", (0, 1, -4)), (("line", (0, 1, -4)),), {"line": (0, 1, -4)}, ("seen", (1, 3), (0, 1, -4))]:
            self.assert_same(chain_holds(P, T, BOX, 0, (1, 3), thing), False)


class Bars(RoomCase):
    def assert_bars(self, plan, tree, box, i, chain, rows):
        """Of these rows (lefts, rights, wanted) just the wanted ones are bars; no line leads through the chain."""
        self.assert_bar(plan, tree, box, i, chain)
        table = openings(plan, tree, box)
        for lefts, rights, wanted in rows:
            thing = ("bar", lefts, rights)
            self.assertEqual(chain_holds_by_the_words(table, i, chain, thing), wanted, "the test itself is wrong")
            self.assert_same(chain_holds(plan, tree, box, i, chain, thing), wanted)

    def test_three_doors_that_are_not_in_a_row(self):
        low, high, far = (2, 1, 1), (4, 6, 1), (6, 1, 1)
        under, over, beyond = (2, 0, 1), (4, 5, 1), (6, 0, 1)
        self.assert_bars(DOORS, STRIPS, HALL, 0, (1, 4, 7), [
            ((low, high, far), (over,), True), ((low, far), (under, over), True), ((low, far), (over, beyond), True),
            ((low, far, high), (over,), False), ((high, low, far), (over,), False), ((far, low), (under, over), False),
            ((low, far), (over, under), False), ((low, far), (over,), False), ((low, high), (over,), False),
            ((high, far), (over,), False), ((low, high), (under, over), False), ((low, far), (under, beyond), False),
            ((low, high, far), (), False), ((), (over,), False), ((), (), False), ((low, low, far), (over,), False),
            ((low, far), (over, over), False), ((low, high, far), (under, over), False),
            ((low, far), (under, over, beyond), False), ((over,), (low, high, far), False),
            ((under, over), (low, far), False), ((low, high, far), (high,), False), ((low, over, far), (over,), False),
            ((low, high, (6, 2, 1)), (over,), False), ((low, high, far), ((4, 4, 1),), False),
            ((low, high, far), ((8, 10, 2),), False), ((low, high, far), ((4, 5),), False),
            ([low, high, far], (over,), False), ((low, high, far), [over], False), ((low, high, far), over, False),
            ((list(low), high, far), (over,), False), ((low, high, far), ((4, 5, True),), False),
            (low, (over,), False), (None, (over,), False), ("lefts", "rights", False)])
        # In the other direction the sides are exchanged.
        self.assert_bars(DOORS, STRIPS, HALL, 3, (7, 4, 1), [
            ((over,), (low, high, far), True), ((under, over), (low, far), True), ((over, beyond), (low, far), True),
            ((low, high, far), (over,), False), ((low, far), (under, over), False), ((over,), (low, far), False)])

    def test_round_a_corner(self):
        # Three quarters of the way round (0, 0): it is on the left, between two corners on the right.
        table = openings((), QUARTERS, SQUARE)
        chain = chain_between(table, 0, 2, 3, 1)
        zero, up, left, down = (0, 0, 1), (0, 7, 1), (-5, 0, 1), (0, -5, 1)
        self.assert_line((), QUARTERS, SQUARE, 0, chain[:2])
        self.assert_bars((), QUARTERS, SQUARE, 0, chain, [
            ((zero,), (down, up), True), ((zero,), (left, down, up), True), ((zero,), (up, down), False),
            ((zero,), (up,), False), ((zero,), (left, up), False), ((zero,), (left, down), False),
            ((zero, zero), (down, up), False), ((down, up), (zero,), False), ((zero,), (zero,), False),
            ((zero,), (), False), ((), (down, up), False), ((up,), (down, up), False)])
        back = chain_between(table, 1, 3, 2, 0)
        self.assert_bars((), QUARTERS, SQUARE, 1, back, [
            ((down, up), (zero,), True), ((left, down, up), (zero,), True), ((zero,), (down, up), False),
            ((up,), (zero,), False), ((up, down), (zero,), False)])

    def test_one_place_on_both_sides(self):
        # The way goes past (0, 0) on its left, and comes back to it on the other side.
        table = openings((), QUARTERS, SQUARE)
        chain = chain_between(table, 0, 2, 5, 4, 1, 3)
        zero = (0, 0, 1)
        self.assert_bars((), QUARTERS, SQUARE, 0, chain, [
            ((zero,), (zero,), True), ((), (zero,), False), ((zero,), (), False),
            (((zero),), ((0, 0, 2),), False), (((0, 0, 1), (0, 0, 1)), (zero,), False)])

    def test_all_bars_of_random_chains(self):
        chance = random.Random(81)
        kinds = {}
        for k in range(60):
            plan, tree, box = random_rooms(chance, 4 + k % 6, k % 9, chance.choice([3, 5, 20]))
            table = openings(plan, tree, box)
            i = chance.randrange(4 + k % 6)
            chains = [chain for chain, _ in islice(chains_in_turn(table, i), 400) if len(chain) > 2]
            for chain in chance.sample(chains, min(4, len(chains))):
                lefts, rights = corners_by_the_words(table, i, chain)
                bars = list(all_bars(lefts, rights))
                self.assertEqual(judge_chain(plan, tree, box, i, chain)[0], "bar" if bars else "line")
                for some, others in chance.sample(bars, min(6, len(bars))):
                    kinds[len(some), len(others)] = True
                    self.assert_same(chain_holds(plan, tree, box, i, chain, ("bar", some, others)), True)
                for _ in range(12):
                    some = tuple(sorted(set(chance.sample(lefts, chance.randint(0, min(3, len(lefts)))))))
                    others = tuple(sorted(set(chance.sample(rights, chance.randint(0, min(3, len(rights)))))))
                    self.assert_same(chain_holds(plan, tree, box, i, chain, ("bar", some, others)),
                                     chain_holds_by_the_words(table, i, chain, ("bar", some, others)))
        self.assertGreaterEqual(set(kinds), {(1, 2), (1, 3), (2, 1), (2, 2), (3, 1)})


class Chains(RoomCase):
    def test_any_value_as_a_certificate(self):
        table = openings(DOORS, STRIPS, HALL)
        bar = ("bar", ((2, 1, 1), (6, 1, 1)), ((2, 0, 1), (4, 5, 1)))
        for chain, good in [((1, 4, 7), bar), ((1, 4), ("line", (-5, 2, 9)))]:
            self.assert_same(chain_holds(DOORS, STRIPS, HALL, 0, chain, good), True)
            for thing in ODD:
                self.assert_same(chain_holds(DOORS, STRIPS, HALL, 0, chain, thing), False)
            for thing in islice(variants(good), 0, None, 3):
                self.assert_same(chain_holds(DOORS, STRIPS, HALL, 0, chain, thing),
                                 chain_holds_by_the_words(table, 0, chain, thing))

    def test_the_value_is_left_as_it_was(self):
        for thing in [["line", [0, 1, -4]], ("bar", [[2, 1, 1]], {"a": [1]}), ("line", [0, 1, -4])]:
            before = repr(thing)
            self.assert_same(chain_holds(P, T, BOX, 0, (1, 3), thing), False)
            self.assertEqual(repr(thing), before)

    def test_just_one_kind_holds(self):
        chance = random.Random(82)
        opened = 0
        for k in range(16):
            plan, tree, box = random_rooms(chance, 2 + k % 8, k % 9, chance.choice([2, 3, 6, 58]))
            table = openings(plan, tree, box)
            chains = open_chains(plan, tree, box, table)
            for i in range(2 + k % 8):
                own = sorted(chain for cell, chain in chains if cell == i)
                others = [chain for chain, _ in islice(chains_in_turn(table, i), 500) if chain]
                for chain in chance.sample(own, min(3, len(own))) + chance.sample(others, min(3, len(others))):
                    opened += (i, chain) in chains
                    if (i, chain) in chains:
                        self.assert_line(plan, tree, box, i, chain)
                    else:
                        self.assert_bar(plan, tree, box, i, chain)
                        longer = [one for one, route in islice(chains_in_turn(table, i), 500)
                                  if one[:len(chain)] == chain]
                        for one in longer[:3]:
                            self.assert_bar(plan, tree, box, i, one)
        self.assertGreater(opened, 150)

    def test_bad_chains(self):
        for chain in [(), (0, 1), (0, 0), (2,), (3,), (4,), (-1,), (-4,), (0, 2, 2), (0, 2, 3), (0, 2, 0), (0, -1),
                      (False, 2), (0, True), (True,), [1, 3], [0], None, 0, "0", ("0",), (None,), ((0,),), {0: 0}, {},
                      (0, BIG), (1, 3, 3), (0, 4), DEEP, "chain", (0, [2])]:
            for function, more in [(judge_chain, ()), (chain_holds, (None,)), (chain_holds, (("line", (0, 1, -4)),))]:
                self.assert_error(BadChain, chain, function, P, T, BOX, 0, chain, *more)
                for i in [3, -1, True, None, [0]]:
                    self.assert_error(BadCell, i, function, P, T, BOX, i, chain, *more)
        for chain in ODD:
            if repr(chain) != "(0,)":
                self.assert_error(BadChain, chain, judge_chain, P, T, BOX, 0, chain)
        for chain in [(0,), (1,), (0, 2), (1, 2), (0, 3), (1, 3)]:
            self.assertIn(judge_chain(P, T, BOX, 0, chain)[0], ("line", "bar"))
        self.assert_error(BadChain, (0,), judge_chain, (), None, (0, 0, 1, 1), 0, (0,))

    def test_chains_that_go_to_a_cell_twice(self):
        table = openings((), QUARTERS, SQUARE)
        round_about = chain_between(table, 0, 2, 3, 1, 0)
        self.assert_error(BadChain, round_about, judge_chain, (), QUARTERS, SQUARE, 0, round_about)
        there_and_back = chain_between(table, 0, 2, 3, 2)
        self.assert_error(BadChain, there_and_back, chain_holds, (), QUARTERS, SQUARE, 0, there_and_back, None)
        self.assertEqual(judge_chain((), QUARTERS, SQUARE, 0, round_about[:3])[0], "bar")


class Sights(RoomCase):
    def test_the_same_cell(self):
        for i in range(3):
            self.assert_same(judge_seen(P, T, BOX, i, i), ("seen", (), None))
            self.assert_same(seen_holds(P, T, BOX, i, i, ("seen", (), None)), True)
            for thing in [("seen", (), (0, 1, -4)), ("seen", None, None), ("seen", [], None), ("seen", (), ()),
                          ("seen", (), False), ("hidden", ()), ("seen", (0, 1), (0, 1, -4)), ("seen", (0,), None),
                          ("seen", ()), ("seen", (0,), (0, 1, -4))]:
                self.assert_same(seen_holds(P, T, BOX, i, i, thing), False)
        self.assert_same(judge_seen((), None, (0, 0, 1, 1), 0, 0), ("seen", (), None))
        self.assert_same(seen_from((), None, (0, 0, 1, 1), 0), (0,))

    def test_next_to_one_another(self):
        for i, j in [(0, 1), (1, 0), (1, 2), (2, 1)]:
            self.assert_seen(P, T, BOX, i, j)
            for thing in [("seen", (), None), ("hidden", ()), ("seen", (), (0, 1, -4))]:
                self.assert_same(seen_holds(P, T, BOX, i, j, thing), False)

    def test_chains_and_lines_that_do_not_fit(self):
        good = ("seen", (1, 3), (0, 1, -4))
        self.assert_same(seen_holds(P, T, BOX, 0, 2, good), True)
        for chain, line in [((1,), (0, 1, -4)), ((3,), (0, 1, -4)), ((0, 2), (0, 1, -4)), ((1, 3), (0, -1, 4)),
                            ((1, 3), (0, 1, -5)), ((1, 3), (0, 1, -3)), ((1, 3), None), ((1, 3), (0, 2, -8)),
                            ((), None), ((), (0, 1, -4)), ((3, 1), (0, 1, -4)), ([1, 3], (0, 1, -4)), (None, None),
                            ((True, 3), (0, 1, -4)), ((1, 3), [0, 1, -4]), ((1, 3), (0, True, -4)),
                            ((1, 4), (0, 1, -4)),
                            ((1, -1), (0, 1, -4)), ((1, 3, 3), (0, 1, -4)), ((0, 1, 3), (0, 1, -4))]:
            self.assert_same(seen_holds(P, T, BOX, 0, 2, ("seen", chain, line)), False)
        self.assert_same(seen_holds(P, T, BOX, 0, 1, good), False)
        self.assert_same(seen_holds(P, T, BOX, 2, 0, good), False)
        self.assert_same(seen_holds(P, T, BOX, 2, 0, ("seen", (3, 1), (0, -1, 4))), True)
        self.assert_same(seen_holds(P, T, BOX, 0, 2, ("seen", (0, 2), (0, 1, 4))), True)

    def test_round_a_corner(self):
        # Two walls from (0, 0) upwards and to the right shut the first quarter, but for their ends.
        plan = walls_of((0, 0, 0, 6), (0, 0, 6, 0))
        tree = node((1, 0, 0), node((0, 1, 0), pieces=(("b", (0, 0, 1), (6, 0, 1)),)), node((0, 1, 0)),
                    pieces=(("a", (0, 0, 1), (0, 6, 1)),))
        self.assert_sights(plan, tree, (-7, -7, 7, 7))
        # A passage round a corner: the arms are cells on both sides of the line y = 1 that see one another.
        bend = walls_of((0, 0, 9, 0), (0, 0, 0, 9), (1, 1, 9, 1), (1, 1, 1, 9))
        tree, box = built(bend, ("a", "b", "c", "d")), (-1, -1, 10, 10)
        self.assert_sights(bend, tree, box)
        one, other = cell_number(bend, tree, box, (18, 1, 2)), cell_number(bend, tree, box, (1, 18, 2))
        self.assertEqual(len(self.assert_seen(bend, tree, box, one, other)[1]), 1)

    def test_behind_a_wall_as_wide_as_the_view(self):
        # By the doors from (2, 0) to (2, 1) and from (6, 0) to (6, 1) one sees x = 4 between (4, 0) and (4, 1).
        for low, high, wanted in [(0, 1, False), (-1, 1, False), (0, 2, False), (-3, 4, False), (1, 2, True),
                                  (-2, 0, True), (1, 9, True), (-9, 0, True)]:
            plan, tree, box = hall((2, -9, 0), (2, 1, 9), (4, low, high), (6, -9, 0), (6, 1, 9))
            self.assert_sights(plan, tree, box)
            self.assertEqual(4 in seen_from(plan, tree, box, 1), wanted)
            self.assertEqual(1 in seen_from(plan, tree, box, 4), wanted)

    def test_the_doors(self):
        table, chains = self.assert_sights(DOORS, STRIPS, HALL)
        self.assert_same(seen_from(DOORS, STRIPS, HALL, 0), (0, 1, 2, 3))
        self.assertIn((0, (0, 3, 6)), chains)

    def test_cells_that_are_shut_off(self):
        chance = random.Random(83)
        for _ in range(3):
            plan, tree, box = random_closed_rooms(chance, 8, 4)
            self.assert_sights(plan, tree, box)
            table = openings(plan, tree, box)
            for i, j in combinations(range(len(cells(plan, tree, box))), 2):
                if j not in reached(table, i):
                    self.assert_same(judge_seen(plan, tree, box, i, j), ("hidden", ()))

    def test_random(self):
        chance = random.Random(84)
        hidden = 0
        for k in range(40):
            plan, tree, box = random_rooms(chance, 1 + k % 9, k % 10, chance.choice([2, 3, 5, 12, 58]))
            self.assert_sights(plan, tree, box)
            seen = [seen_from(plan, tree, box, i) for i in range(1 + k % 9)]
            for i, row in enumerate(seen):
                self.assertIn(i, row)
                self.assertEqual(list(row), sorted(set(row)))
                for j in range(len(seen)):
                    self.assertEqual(j in row, i in seen[j])
                    hidden += j not in row
        self.assertGreater(hidden, 40)

    def test_the_lines_reversed(self):
        chance = random.Random(85)
        for k in range(10):
            plan, tree, box = random_rooms(chance, 5 + k % 4, 6, 4)
            self.assert_sights(plan, mirrored(tree), box)

    def test_eyes_in_cells(self):
        chance = random.Random(86)
        met = 0
        for k in range(40):
            plan, tree, box = random_rooms(chance, 2 + k % 8, 1 + k % 9, chance.choice([3, 5, 12]))
            shapes = polygons(tree, box)
            for _ in range(4):
                eye = random_eye(chance, plan, box[3] - 1)
                i = cell_number(plan, tree, box, eye)
                if i is None:
                    continue
                borders = [side for j in seen_from(plan, tree, box, i) for side in sides(shapes[j])]
                for name in walls_seen(plan, eye):
                    met += 1
                    _, p, q = [row for row in plan if row[0] == name][0]
                    self.assertTrue(any(common_border([p, q], [*side]) for side in borders))
        self.assertGreater(met, 60)


class Hidden(RoomCase):
    def certificates(self, found, table, i, j):
        """Changes of a certificate with bars."""
        rows = found[1]
        yield from [("hidden", ()), ("hidden", rows[::-1]), ("hidden", rows + rows[:1]), ("hidden", list(rows)),
                    ("hidden", rows, None), ("seen", rows), ("hidden",), ["hidden", rows], rows]
        for k in range(len(rows)):
            yield ("hidden", rows[:k] + rows[k + 1:])
            yield ("hidden", rows[:k] + ((rows[k][0], rows[k][2], rows[k][1]),) + rows[k + 1:])
            yield ("hidden", rows[:k] + ((rows[k][0][:-1], *rows[k][1:]),) + rows[k + 1:])
            yield ("hidden", rows[:k] + (rows[k][1:],) + rows[k + 1:])
            yield ("hidden", rows[:k] + (list(rows[k]),) + rows[k + 1:])
            yield ("hidden", rows[:k] + (rows[k][0],) + rows[k + 1:])
            own = [chain for chain in chains_from(table, i) if chain[:-1] == rows[k][0]]
            longer = tuple((chain, *rows[k][1:]) for chain in own)
            # Bars on all chains that go on from this one do as well, unless it ends at j itself.
            yield ("hidden", tuple(sorted(rows[:k] + longer + rows[k + 1:])))
            yield ("hidden", tuple(sorted(rows + longer[:1])))
            yield ("hidden", tuple(sorted(rows[:k] + longer[1:] + rows[k + 1:])))
            for some, others in islice(all_bars(*corners_by_the_words(table, i, rows[k][0])), 3):
                yield ("hidden", rows[:k] + ((rows[k][0], some, others),) + rows[k + 1:])
                yield ("hidden", tuple(sorted({*rows, (rows[k][0], some, others)})))

    def assert_certificates(self, plan, tree, box, i, j, found):
        table = openings(plan, tree, box)
        held = 0
        for thing in self.certificates(found, table, i, j):
            wanted = seen_holds_by_the_words(table, i, j, thing)
            held += wanted
            self.assert_same(seen_holds(plan, tree, box, i, j, thing), wanted)
        return held

    def test_changes_of_certificates(self):
        chance = random.Random(87)
        held = told = 0
        for k in range(60):
            plan, tree, box = random_rooms(chance, 4 + k % 4, 3 + k % 6, chance.choice([2, 3, 5]))
            for i, j in combinations(range(4 + k % 4), 2):
                found = judge_seen(plan, tree, box, i, j)
                if found[0] == "hidden" and len(found[1]) < 12:
                    told += len(found[1])
                    held += self.assert_certificates(plan, tree, box, i, j, found)
        self.assertGreater(told, 100)
        self.assertGreater(held, 100)

    def test_rows_one_by_one(self):
        # By the doors in x = 2, 4 and 6 one does not see on. One cannot see round the walls above and below either.
        plan, tree, box = hall((2, -9, 0), (2, 1, 9), (4, -9, 5), (4, 6, 9), (6, -9, 0), (6, 1, 9), (8, -9, 5))
        table, chains = self.assert_sights(plan, tree, box)
        by_doors, over, under = [chain_between(table, *route) for route in [(1, 2, 3, 4, 5), (1, 0, 5), (1, 6, 5)]]
        self.assertEqual(sorted(chain for chain, route in chains_from(table, 1).items() if route[-1] == 5),
                         sorted([by_doors, over, under]))
        round_door = (((2, 1, 1), (6, 1, 1)), ((2, 0, 1), (4, 5, 1)))
        same_door = (((2, 1, 1), (4, 6, 1), (6, 1, 1)), ((4, 5, 1),))
        rows = {chain: (chain, *judge_chain(plan, tree, box, 1, chain)[1:]) for chain in (over, under)}
        short, other, long = (by_doors[:3], *round_door), (by_doors[:3], *same_door), (by_doors, *round_door)
        for told, wanted in [
                ((short, rows[over], rows[under]), True), ((other, rows[over], rows[under]), True),
                ((long, rows[over], rows[under]), True), ((short, other, rows[over], rows[under]), True),
                ((short, long, rows[over], rows[under]), True), ((short, other, long, rows[over], rows[under]), True),
                ((rows[over], rows[under]), False), ((short, rows[over]), False), ((long, rows[under]), False),
                ((), False),
                ((short, rows[over], (under, *round_door)), False), ((short, rows[over], rows[under][:2]), False),
                ((short, rows[over], (by_doors[:2], *round_door)), False)]:
            thing = ("hidden", tuple(sorted(told)))
            self.assertEqual(seen_holds_by_the_words(table, 1, 5, thing), wanted, "the test itself is wrong")
            self.assert_same(seen_holds(plan, tree, box, 1, 5, thing), wanted)
        good = tuple(sorted((short, rows[over], rows[under])))
        for told in [good[::-1], (good[1], good[0], good[2]), (*good, good[2]), list(good), (good[0], *good), good[0]]:
            self.assert_same(seen_holds(plan, tree, box, 1, 5, ("hidden", told)), False)
        # The rows hold for the cell before as well, to which all chains lead over theirs.
        self.assert_same(seen_holds(plan, tree, box, 1, 4, ("hidden", good)), True)
        self.assert_same(seen_holds(plan, tree, box, 1, 3, ("hidden", good)), False)
        self.assert_same(seen_holds(plan, tree, box, 5, 1, ("hidden", good)), False)
        self.assert_same(seen_holds(plan, tree, box, 1, 1, ("hidden", good)), False)
        found = self.assert_hidden(plan, tree, box, 1, 5)
        self.assertGreater(self.assert_certificates(plan, tree, box, 1, 5, found), 5)
        found = self.assert_hidden(plan, tree, box, 5, 1)
        self.assertGreater(self.assert_certificates(plan, tree, box, 5, 1, found), 2)

    def test_any_value(self):
        for thing in ODD:
            for i, j in [(0, 2), (1, 1), (2, 0)]:
                self.assert_same(seen_holds(P, T, BOX, i, j, thing), False)
        good = ("seen", (1, 3), (0, 1, -4))
        table = openings(P, T, BOX)
        for thing in variants(good):
            self.assert_same(seen_holds(P, T, BOX, 0, 2, thing), seen_holds_by_the_words(table, 0, 2, thing))

    def test_any_value_in_place_of_bars(self):
        plan, tree, box, i, j, found = self.hidden_example()
        table = openings(plan, tree, box)
        self.assert_same(seen_holds(plan, tree, box, i, j, found), True)
        for thing in islice(variants(found), 0, None, 5):
            self.assert_same(seen_holds(plan, tree, box, i, j, thing), seen_holds_by_the_words(table, i, j, thing))

    def hidden_example(self):
        """Rooms of which one is hidden by two bars or more."""
        chance = random.Random(88)
        for _ in range(200):
            plan, tree, box = random_rooms(chance, 5, 6, 4)
            for i, j in combinations(range(5), 2):
                found = judge_seen(plan, tree, box, i, j)
                if found[0] == "hidden" and len(found[1]) == 2:
                    return plan, tree, box, i, j, found
        return self.fail("nothing is hidden by two bars")

    def test_the_value_is_left_as_it_was(self):
        for thing in [["hidden", []], ("hidden", [((0, 2), [], ())]), ("seen", [1, 3], {"a": [1]})]:
            before = repr(thing)
            self.assert_same(seen_holds(P, T, BOX, 0, 2, thing), False)
            self.assertEqual(repr(thing), before)


class Refusals(BoxRefusals, PromiseCase):
    CALLS = [(judge_chain, (0, (1, 3))), (judge_chain, (None, None)), (chain_holds, (0, (1, 3), None)),
             (chain_holds, (3, (), None)), (judge_seen, (0, 2)), (judge_seen, (True, 7)), (seen_holds, (0, 2, None)),
             (seen_holds, (-1, 2, None)), (seen_from, (0,)), (seen_from, ("0",))]

    def test_bad_cells_come_next(self):
        for i in [-1, 3, BIG, True, False, None, "0", (0,), [0], {}, DEEP]:
            self.assert_error(BadCell, i, seen_from, P, T, BOX, i)
            for function, more in [(judge_seen, ()), (seen_holds, (("seen", (), None),)), (seen_holds, (None,))]:
                self.assert_error(BadCell, i, function, P, T, BOX, i, 0, *more)
                self.assert_error(BadCell, i, function, P, T, BOX, 2, i, *more)
                self.assert_error(BadCell, i, function, P, T, BOX, i, "x", *more)
                self.assert_error(BadCell, "x", function, P, T, BOX, "x", i, *more)
                self.assert_error(BadCell, i, function, P, T, BOX, i, i, *more)
        for i in ODD:
            if type(i) is not int or not 0 <= i < 3:
                self.assert_error(BadCell, i, seen_from, P, T, BOX, i)
                self.assert_error(BadCell, i, judge_chain, P, T, BOX, i, (0,))


class Sizes(RoomCase):
    def assert_fast(self, plan, tree, box):
        for i in range(len(cells(plan, tree, box))):
            begin = time.process_time()
            seen = seen_from(plan, tree, box, i)
            self.assertLess(time.process_time() - begin, 2)
            for j in range(len(cells(plan, tree, box))):
                begin = time.process_time()
                found = judge_seen(plan, tree, box, i, j)
                self.assertLess(time.process_time() - begin, 2)
                begin = time.process_time()
                self.assert_same(seen_holds(plan, tree, box, i, j, found), True)
                self.assert_same(seen_holds(plan, tree, box, i, j, ("hidden", ())), False
                                 if j in reached(openings(plan, tree, box), i) else True)
                self.assertLess(time.process_time() - begin, 2)
                self.assertEqual(found[0] == "seen", j in seen)

    def test_nine_cells_and_nine_walls(self):
        chance = random.Random(90)
        for size in (5, 20, 58):
            self.assert_fast(*random_rooms(chance, 9, 9, size))

    def test_eight_strips_of_two_openings_and_more(self):
        plan = walls_of(*[(x, (x % 3) - 1, x, (x % 3) + 1) for x in range(1, 9)], (4, 5, 4, 7))
        tree = None
        for k in range(8, 0, -1):
            pieces = tuple((name, (*p, 1), (*q, 1)) for name, p, q in plan if p[0] == k)
            tree = node((-1, 0, k), None, tree, pieces)
        self.assert_fast(plan, tree, (0, -9, 9, 9))


if __name__ == "__main__":
    unittest.main()
