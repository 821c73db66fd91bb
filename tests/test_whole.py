"""[0.2] and [0.3] over the whole program: its parts go together, and plans turned, mirrored and moved give the same."""

import random
import unittest

from eyeorder.cells import cell_number, cells, is_box, judge_way, openings, way_holds
from eyeorder.changes import House, put_in, taken_out
from eyeorder.errors import (
    BadBox, BadCamera, BadCell, BadChain, BadName, BadNumber, BadPlace, BadPlan, BadTree, BadWall,
)
from eyeorder.pictures import column_direction, is_camera, picture, shown
from eyeorder.plans import plan_text, read_plan
from eyeorder.rooms import chain_holds, judge_chain, judge_seen, seen_from, seen_holds
from eyeorder.trees import built, is_tree
from eyeorder.views import sees, view, view_by_walk
from eyeorder.walks import judge_pieces, walk
from tests.oracles import nodes, random_plan, random_tree, view_by_the_words
from tests.promises import DEEP, P, PromiseCase, exact
from tests.room_oracles import (
    is_box_by_the_words, open_chains, random_rooms, seen_by_the_words, seen_holds_by_the_words,
)
from tests.test_cells import BOX, T
from tests.test_changes import random_addition
from tests.test_pictures import CAMERA, random_camera, shown_by_the_words
from tests.test_walks import random_eye

E = (0, 0, 1)


class Turned:
    """The plane turned by a quarter, mirrored at the y axis, or moved: how points, lines and boxes go along."""

    def __init__(self, kind, dx=0, dy=0):
        self.kind, self.dx, self.dy = kind, dx, dy

    def point(self, x, y, w=1):
        x, y = {"turn": (-y, x), "mirror": (-x, y), "move": (x + self.dx * w, y + self.dy * w)}[self.kind]
        return x, y

    def place(self, p):
        return (*self.point(*p), p[2])

    def line(self, line):
        a, b, c = line
        return {"turn": (-b, a, c), "mirror": (-a, b, c), "move": (a, b, c - a * self.dx - b * self.dy)}[self.kind]

    def plan(self, plan):
        return tuple((name, self.point(*p), self.point(*q)) for name, p, q in plan)

    def tree(self, tree):
        if tree is None:
            return None
        line, own, left, right = tree
        pieces = tuple((name, self.place(p), self.place(q)) for name, p, q in own)
        return (self.line(line), pieces, self.tree(left), self.tree(right))

    def box(self, box):
        (x, y), (u, v) = self.point(*box[:2]), self.point(*box[2:])
        return (min(x, u), min(y, v), max(x, u), max(y, v))

    def opening(self, row):
        i, j, p, q = row[0], row[1], self.place(row[2]), self.place(row[3])
        # In a mirror the cell i is on the left of the line in the other direction.
        return (i, j, q, p) if self.kind == "mirror" else (i, j, p, q)


def turnings(chance):
    return [Turned("turn"), Turned("mirror"), Turned("move", chance.randint(-3, 3), chance.randint(-3, 3))]


class Together(PromiseCase):
    def test_from_a_text_to_the_views_of_a_changed_tree(self):
        plan = read_plan("wall a 2 -1 2 1\nwall b 4 -3 4 3")
        tree = built(plan, ("b", "a"))
        self.assert_same(picture(plan, CAMERA, 4), ("...", "bab", "bab", "..."))
        house = House(plan, tree, E)
        self.assert_same(house.take("a"), None)
        self.assert_same(picture(house.plan(), (house.eye(), *CAMERA[1:]), 4), ("...", "bbb", "bbb", "..."))
        self.assert_same(house.go((3, 0, 1)), None)
        self.assert_same(house.put(("c1", (1, -2), (1, 2))), None)
        self.assert_same(plan_text(house.plan()), "wall b 4 -3 4 3\nwall c1 1 -2 1 2")
        self.assert_same(is_tree(house.plan(), house.tree()), True)
        self.assert_same(house.tree(), (
            (-1, 0, 4), (("b", (4, -3, 1), (4, 3, 1)),), ((-1, 0, 2), (), ((-1, 0, 1), (
                ("c1", (1, -2, 1), (1, 2, 1)),), None, None), None), None))
        self.assert_same(view_by_walk(house.plan(), house.tree(), house.eye()), house.view())
        box = (0, -4, 5, 4)
        self.assert_same(cell_number(house.plan(), house.tree(), box, house.eye()), 2)
        self.assert_same(seen_from(house.plan(), house.tree(), box, 2), (0, 1, 2, 3))
        self.assert_same([house.undo(), house.undo(), house.undo(), house.undo()], [True, True, True, False])
        self.assert_same([house.plan(), house.tree(), house.eye()], [plan, tree, E])

    def test_random_houses(self):
        chance = random.Random(111)
        for k in range(30):
            plan = random_plan(chance, k % 6, 6)
            text = plan_text(plan)
            house = House(read_plan(text), random_tree(chance, plan, 2, 6), random_eye(chance, plan, 6))
            for step in range(6):
                wall = random_addition(chance, house.plan(), 6, f"n{step}")
                if chance.random() < 0.5 and house.plan():
                    house.take(chance.choice(house.plan())[0])
                elif not_on(wall, house.eye()):
                    house.put(wall)
                house.go(random_eye(chance, house.plan(), 6))
                self.assert_all_right(chance, house.plan(), house.tree(), house.eye())
            while house.undo():
                self.assert_same(is_tree(house.plan(), house.tree()), True)
            self.assert_same(plan_text(house.plan()), text)

    def assert_all_right(self, chance, plan, tree, eye):
        self.assert_same(read_plan(plan_text(plan)), plan)
        self.assert_same(is_tree(plan, tree), True)
        self.assert_same(judge_pieces(plan, tree, eye, walk(plan, tree, eye)), ("fits",))
        wanted = view_by_the_words(plan, eye)
        self.assert_same([view(plan, eye), view_by_walk(plan, tree, eye)], [wanted, wanted])
        camera = (eye, *random_camera(chance, plan, 6, 5)[1:])
        self.assert_same(shown(plan, camera), shown_by_the_words(plan, camera))
        for k, told in enumerate(shown(plan, camera)):
            found = sees(plan, eye, column_direction(plan, camera, k))
            self.assert_same(told and told[:2], found and (found[1][0], found[0]))

    def test_what_can_be_seen_in_changed_trees(self):
        chance = random.Random(112)
        told = 0
        for k in range(60):
            plan = random_plan(chance, k % 3, 5)
            tree = random_tree(chance, plan, 1, 5)
            for step in range(3):
                plan, tree = put_in(plan, tree, random_addition(chance, plan, 5, f"n{step}"))
                if chance.random() < 0.4:
                    plan, tree = taken_out(plan, tree, chance.choice(plan)[0])
            box = (-20, -21, 21, 22)
            if nodes(tree) > 6 or not all(max(abs(n) for n in p + q) < 20 for _, p, q in plan):
                continue
            self.assert_same(is_box(plan, tree, box), is_box_by_the_words(plan, tree, box))
            if is_box(plan, tree, box):
                told += 1
                self.assert_guarantee(plan, tree, box)
        self.assertGreater(told, 12)

    def assert_guarantee(self, plan, tree, box):
        """One room can be seen from another one exactly if a line is returned; otherwise every chain is barred."""
        table = openings(plan, tree, box)
        chains = open_chains(plan, tree, box, table)
        for i in range(len(cells(plan, tree, box))):
            seen = seen_by_the_words(table, chains, i)
            self.assert_same(seen_from(plan, tree, box, i), seen)
            for j in range(len(cells(plan, tree, box))):
                found = judge_seen(plan, tree, box, i, j)
                self.assertEqual(found[0], "seen" if j in seen else "hidden")
                self.assertTrue(seen_holds_by_the_words(table, i, j, found))


def not_on(wall, eye):
    try:
        House((), None, eye).put(wall)
    except BadWall:
        return False
    return True


class Symmetry(PromiseCase):
    def test_cells_openings_and_ways(self):
        chance = random.Random(113)
        for k in range(50):
            plan, tree, box = random_rooms(chance, 1 + k % 9, k % 8, chance.choice([3, 5, 12]))
            table, shapes = openings(plan, tree, box), cells(plan, tree, box)
            for turned in turnings(chance):
                other = (turned.plan(plan), turned.tree(tree), turned.box(box))
                self.assert_same(is_box(*other), True)
                self.assertEqual([{turned.place(p) for p in shape} for shape in shapes],
                                 [set(shape) for shape in cells(*other)])
                self.assert_same(openings(*other), tuple(sorted(turned.opening(row) for row in table)))
                for j in range(len(shapes)):
                    found = judge_way(*other, 0, j)
                    self.assertEqual(found[0], judge_way(plan, tree, box, 0, j)[0])
                    self.assert_same(way_holds(*other, 0, j, found), True)

    def test_what_is_seen_from_a_cell(self):
        chance = random.Random(114)
        for k in range(25):
            plan, tree, box = random_rooms(chance, 3 + k % 7, 3 + k % 7, chance.choice([2, 3, 5]))
            table = openings(plan, tree, box)
            many = len(cells(plan, tree, box))
            for turned in turnings(chance):
                other = (turned.plan(plan), turned.tree(tree), turned.box(box))
                moved = openings(*other)
                places = [moved.index(turned.opening(row)) for row in table]
                for i in range(many):
                    self.assert_same(seen_from(*other, i), seen_from(plan, tree, box, i))
                    found = judge_seen(plan, tree, box, 0, i)
                    self.assert_same(seen_holds(*other, 0, i, self.moved(turned, places, found)), True)

    def moved(self, turned, places, found):
        """A certificate of what is seen, turned, mirrored or moved along."""
        if found[0] == "hidden":
            rows = []
            for chain, lefts, rights in found[1]:
                sides = [tuple(sorted(turned.place(p) for p in side)) for side in (lefts, rights)]
                rows.append((tuple(places[k] for k in chain), *(sides[::-1] if turned.kind == "mirror" else sides)))
            return ("hidden", tuple(sorted(rows)))
        _, chain, line = found
        if line is None:
            return found
        line = turned.line(line)
        line = tuple(-n for n in line) if turned.kind == "mirror" else line
        return ("seen", tuple(places[k] for k in chain), line)

    def test_pictures(self):
        chance = random.Random(115)
        for k in range(40):
            plan = random_plan(chance, k % 7, 6)
            eye, (x, y), wide, columns = random_camera(chance, plan, 6, chance.randint(1, 12))
            found = shown(plan, (eye, (x, y), wide, columns))
            for turned in turnings(chance):
                forward = (x, y) if turned.kind == "move" else turned.point(x, y)
                other = shown(turned.plan(plan), (turned.place(eye), forward, wide, columns))
                other = other[::-1] if turned.kind == "mirror" else other
                self.assert_same(other, tuple(told and (told[0], turned.place(told[1]), told[2]) for told in found))

    def test_changes(self):
        chance = random.Random(116)
        for k in range(40):
            plan = random_plan(chance, k % 6, 5)
            tree = random_tree(chance, plan, 2, 6)
            wall = random_addition(chance, plan, 5, "new")
            for turned in turnings(chance):
                mirrored = turned.kind == "mirror"
                found = put_in(turned.plan(plan), turned.tree(tree), turned.plan((wall,))[0])
                longer, grown = put_in(plan, tree, wall)
                self.assert_same(found[0], turned.plan(longer))
                # In a mirror the line of a new node has its left on the other side.
                self.assertEqual(nodes(found[1]), nodes(grown))
                if not mirrored:
                    self.assert_same(found[1], turned.tree(grown))


class TheSameCallAgain(PromiseCase):
    def test_equal_results_and_unchanged_arguments(self):
        wall = ("c", (0, 4), (6, 4))
        way, sight, line = ("way", (1, 2)), ("seen", (1, 3), (0, 1, -4)), ("line", (0, 1, -4))
        calls = [(is_camera, (P, CAMERA)), (column_direction, (P, CAMERA, 0)), (shown, (P, CAMERA)),
                 (picture, (P, CAMERA, 4)), (is_box, (P, T, BOX)), (cells, (P, T, BOX)),
                 (cell_number, (P, T, BOX, E)), (openings, (P, T, BOX)), (judge_way, (P, T, BOX, 0, 2)),
                 (way_holds, (P, T, BOX, 0, 2, way)), (judge_chain, (P, T, BOX, 0, (1, 3))),
                 (chain_holds, (P, T, BOX, 0, (1, 3), line)), (judge_seen, (P, T, BOX, 0, 2)),
                 (seen_holds, (P, T, BOX, 0, 2, sight)), (seen_from, (P, T, BOX, 0)), (put_in, (P, T, wall)),
                 (taken_out, (P, T, "a"))]
        for function, arguments in calls:
            before = exact(arguments)
            told = [exact(function(*arguments)) for _ in range(3)]
            self.assertEqual(told[1:], told[:1] * 2, function.__name__)
            self.assertEqual(exact(arguments), before, function.__name__)

    def test_a_house_as_any_value(self):
        house = House(P, T, E)
        for thing in [house, (house,), ("way", house), ("line", house), ("seen", house, house), ("hidden", (house,)),
                      ("bar", house, house), ("bar", (house,), (house,)), ("shut", (house,)), ("way", (house,)),
                      ("seen", (1, 3), house), ("hidden", ((house, (), ()),)), (E, house, 4, 3), (0, 0, house, 1)]:
            for found in [is_camera(P, thing), is_box(P, T, thing), way_holds(P, T, BOX, 0, 2, thing),
                          chain_holds(P, T, BOX, 0, (1, 3), thing), seen_holds(P, T, BOX, 0, 2, thing),
                          is_tree(P, thing)]:
                self.assert_same(found, False)
        for error, function, more in [
                (BadPlan, cells, (T, BOX)), (BadPlan, shown, (CAMERA,)), (BadPlan, put_in, (T, None))]:
            self.assert_error(error, house, function, house, *more)
        for error, function, more in [
                (BadTree, cells, (P, house, BOX)), (BadBox, cells, (P, T, house)), (BadCamera, shown, (P, house)),
                (BadNumber, picture, (P, CAMERA, house)), (BadCell, seen_from, (P, T, BOX, house)),
                (BadChain, judge_chain, (P, T, BOX, 0, house)), (BadPlace, cell_number, (P, T, BOX, house)),
                (BadWall, put_in, (P, T, house)), (BadName, taken_out, (P, T, house))]:
            self.assert_error(error, house, function, *more)

    def test_values_of_another_kind_nested_deep(self):
        deep = {"a": [DEEP, {"b": (DEEP, [None, True])}]}
        for thing in [deep, (deep,) * 4, ("way", deep), ("line", deep), ("bar", deep, deep), ("seen", deep, deep),
                      ("hidden", deep), ("hidden", (deep,)), ("hidden", ((deep, deep, deep),)), ("shut", (deep,))]:
            for found in [is_camera(P, thing), is_box(P, T, thing), way_holds(P, T, BOX, 0, 2, thing),
                          chain_holds(P, T, BOX, 0, (1, 3), thing), seen_holds(P, T, BOX, 0, 2, thing)]:
                self.assert_same(found, False)


if __name__ == "__main__":
    unittest.main()
