"""[9.4], and the class House of eyeorder/changes.py."""

import random
import unittest

from eyeorder.changes import House, put_in, taken_out
from eyeorder.errors import BadEye, BadName, BadPlace, BadPlan, BadTree, BadWall, EyeError
from eyeorder.trees import built, is_tree
from eyeorder.views import view, view_by_walk
from tests.oracles import (
    common_points, direction_to, is_eye_by_the_words, place_of, point, random_plan, random_tree, spot,
    view_by_the_words,
)
from tests.promises import DEEP, ODD, P, PromiseCase, exact, variants, walls_of
from tests.test_cells import BAD_PLANS, BAD_TREES, BIG, T
from tests.test_changes import (
    cleared_by_the_words, is_addition_by_the_words, put_by_the_words, random_addition,
)
from tests.test_walks import random_eye

E = (0, 0, 1)
BAD_PLACES = [None, (0, 0), (0, 0, 0), (0, 0, 2), (2, 4, 6), (1, 1, -1), [0, 0, 1], (0, 0, True), (True, 0, 1),
              (0, 0, 1, 1), "001", (0, "0", 1), (0, None, 1), ((0, 0, 1),), DEEP, {0: 0, 1: 0, 2: 1}]


def stop_by_the_words(plan, eye, p):
    """The nearest point where the segment from the eye to p meets walls, with the names of these; or None."""
    if eye == p:
        return None
    direction = direction_to(eye, point(p))
    first, last = [point(one)[0 if direction[0] else 1] for one in (eye, p)]
    end = (last - first) / direction[0 if direction[0] else 1]
    met = {wall[0]: common_points(eye, direction, wall) for wall in plan}
    met = {name: times[0] for name, times in met.items() if times and times[0] <= end}
    if not met:
        return None
    nearest = min(met.values())
    names = sorted(name for name, time in met.items() if time == nearest)
    return place_of(*spot(eye, direction, nearest)), tuple(names)


class HouseCase(PromiseCase):
    def assert_state(self, house, plan, tree, eye):
        self.assert_same([house.plan(), house.tree(), house.eye()], [plan, tree, eye])

    def assert_go(self, plan, eye, p, wanted):
        """Going there does just this, with the walls in any direction, and back again the same way."""
        self.assert_same(stop_by_the_words(plan, eye, p), wanted)
        for walls in (plan, tuple((name, q, r) for name, r, q in plan)):
            names = tuple(wall[0] for wall in walls)
            for order in (names, names[::-1]):
                tree = built(walls, order)
                house = House(walls, tree, eye)
                self.assert_same(house.go(p), wanted)
                self.assert_state(house, walls, tree, p if wanted is None else eye)
                self.assert_same(house.undo(), wanted is None)
                self.assert_state(house, walls, tree, eye)
        if wanted is None:
            self.assert_same(House(walls, tree, p).go(eye), None)


class DocumentExamples(HouseCase):
    def test_the_two_walls(self):
        house = House(P, built(P, ("a", "b")), E)
        self.assert_same(
            [house.go((3, 0, 1)), house.take("a"), house.go((3, 0, 1)), house.eye(), house.undo(), house.undo(),
             house.undo(), house.plan() == P],
            [((2, 0, 1), ("a",)), None, None, (3, 0, 1), True, True, False, True])


class Interface(HouseCase):
    def test_methods_of_the_class_itself(self):
        for name in ["plan", "tree", "eye", "put", "take", "go", "undo", "view"]:
            self.assertIn(name, vars(House))
        self.assertEqual(House.__bases__, (object,))

    def test_parameters_by_name(self):
        house = House(eye=E, tree=T, plan=P)
        self.assert_state(house, P, T, E)
        self.assert_same(house.put(wall=("c", (9, 9), (8, 8))), None)
        self.assert_same(house.take(name="a"), None)
        self.assert_same(house.go(p=(3, 0, 1)), None)
        self.assert_same(house.view(), view(house.plan(), (3, 0, 1)))

    def test_a_new_house(self):
        for plan, tree, eye in [(P, T, E), ((), None, (1, 1, 2)), (P, T, (3, 0, 1))]:
            house = House(plan, tree, eye)
            self.assert_state(house, plan, tree, eye)
            self.assert_same(house.view(), view_by_the_words(plan, eye))
            self.assert_same(house.undo(), False)
            self.assert_state(house, plan, tree, eye)

    def test_bad_arguments(self):
        for plan in BAD_PLANS:
            self.assert_error(BadPlan, plan, House, plan, T, E)
            self.assert_error(BadPlan, plan, House, plan, None, None)
        for tree in BAD_TREES:
            self.assert_error(BadTree, tree, House, P, tree, E)
            self.assert_error(BadTree, tree, House, P, tree, (2, 0, 1))
        for eye in [*BAD_PLACES, (2, 0, 1), (4, 1, 2), (4, 1, 1), (2, 1, 1), (4, -3, 1), (12, 8, 3)]:
            self.assert_error(BadEye, eye, House, P, T, eye)
        for eye in ODD:
            if repr(eye) != "(0, 0, 1)":
                self.assert_error(BadEye, eye, House, P, T, eye)


class Walls(HouseCase):
    def test_put(self):
        house = House(P, T, E)
        wall = ("c", (0, 4), (6, 4))
        self.assert_same(house.put(wall), None)
        self.assert_state(house, *put_in(P, T, wall), E)
        self.assert_same(house.undo(), True)
        self.assert_state(house, P, T, E)

    def test_bad_walls(self):
        walls = [("a", (0, 4), (6, 4)), ("c", (0, 0), (4, 0)), ("c", (2, -1), (2, 1)), ("c", (9, 9), (9, 9)), None, "c",
                 ["c", (9, 9), (8, 8)], ("c", (9, True), (8, 8)), ("c", (2, -2), (2, 2)), DEEP, {}, 5]
        house = House(P, T, E)
        for wall in walls + ODD:
            self.assert_error(BadWall, wall, house.put, wall)
            self.assert_state(house, P, T, E)
        self.assert_same(house.undo(), False)
        for wall in variants(("c", (0, 4), (6, 4))):
            house = House(P, T, E)
            if is_addition_by_the_words(P, wall) and is_eye_by_the_words((wall,), E):
                self.assert_same(house.put(wall), None)
                self.assert_state(house, P + (wall,), put_by_the_words(T, wall), E)
            else:
                self.assert_error(BadWall, wall, house.put, wall)
                self.assert_state(house, P, T, E)

    def test_a_wall_on_which_the_eye_is(self):
        for eye, p, q, wanted in [
                (E, (-1, 0), (1, 0), False), (E, (0, 0), (1, 0), False), (E, (1, 0), (0, 0), False),
                (E, (1, 0), (2, 0), True), (E, (-1, 0), (-2, 0), True), (E, (-1, 1), (1, 1), True),
                ((1, 1, 2), (0, 0), (1, 1), False), ((1, 1, 2), (0, 1), (1, 0), False),
                ((1, 1, 2), (0, 0), (1, 2), True), ((3, 3, 2), (0, 0), (1, 1), True),
                ((-1, -1, 2), (0, 0), (1, 1), True), ((1, 2, 3), (0, 1), (1, 0), False)]:
            house, wall = House(P, T, eye), ("c", p, q)
            self.assertEqual(is_eye_by_the_words((wall,), eye), wanted, "the test itself is wrong")
            if wanted:
                self.assert_same(house.put(wall), None)
                self.assert_state(house, *put_in(P, T, wall), eye)
            else:
                self.assert_error(BadWall, wall, house.put, wall)
                self.assert_state(house, P, T, eye)
                self.assert_same(house.undo(), False)

    def test_the_eye_after_it_has_gone(self):
        house = House(P, T, E)
        house.go((0, 2, 1))
        self.assert_error(BadWall, ("c", (-1, 2), (1, 2)), house.put, ("c", (-1, 2), (1, 2)))
        self.assert_same(house.put(("c", (-1, 0), (1, 0))), None)
        self.assert_same(house.go(E), ((0, 0, 1), ("c",)))

    def test_take(self):
        house = House(P, T, E)
        self.assert_same(house.take("a"), None)
        self.assert_state(house, *taken_out(P, T, "a"), E)
        self.assert_error(BadName, "a", house.take, "a")
        self.assert_same(house.undo(), True)
        self.assert_state(house, P, T, E)

    def test_bad_names(self):
        house = House(P, T, E)
        for name in ["c", "", "ab", "A", None, 0, True, ("a",), ["a"], {"a": 1}, DEEP, P[0]] + ODD:
            if name != "a":
                self.assert_error(BadName, name, house.take, name)
                self.assert_state(house, P, T, E)
        self.assert_same(house.undo(), False)
        self.assert_error(BadName, "a", House((), None, E).take, "a")


class Going(HouseCase):
    def test_a_free_way(self):
        for p in [(-5, 0, 1), (1, 0, 1), (3, 5, 1), (0, 60, 1), (199, 0, 100), (4, 2, 5), (2, -3, 1), (-BIG, 0, 1)]:
            self.assert_go(P, E, p, None)
        self.assert_go((), E, (BIG, -BIG, 2), None)
        self.assert_go(P, (3, 0, 1), (3, 40, 1), None)

    def test_to_a_wall_and_through_it(self):
        for p in [(2, 0, 1), (3, 0, 1), (4, 0, 1), (9, 0, 1), (201, 0, 100), (BIG, 0, 1)]:
            self.assert_go(P, E, p, ((2, 0, 1), ("a",)))
        self.assert_go(P, (3, 0, 1), (9, 0, 1), ((4, 0, 1), ("b",)))
        self.assert_go(P, (3, 0, 1), (-9, 0, 1), ((2, 0, 1), ("a",)))
        self.assert_go(P, (9, 0, 1), E, ((4, 0, 1), ("b",)))
        self.assert_go(P, E, (3, 2, 1), None)
        self.assert_go(P, E, (6, 4, 1), ((12, 8, 3), ("b",)))

    def test_through_an_end(self):
        for p in [(2, 1, 1), (4, 2, 1), (3, 1, 1)]:
            self.assert_go(P, E, p, ((2, 1, 1), ("a",)) if p != (3, 1, 1) else ((6, 2, 3), ("a",)))
        self.assert_go(P, E, (8, 6, 1), ((4, 3, 1), ("b",)))
        self.assert_go(P, E, (3, 2, 2), None)
        self.assert_go(P, (4, 4, 1), (4, -9, 1), ((4, 3, 1), ("b",)))

    def test_along_the_line_of_a_wall(self):
        self.assert_go(P, (2, 5, 1), (2, 2, 1), None)
        self.assert_go(P, (2, 5, 1), (2, 1, 1), ((2, 1, 1), ("a",)))
        self.assert_go(P, (2, 5, 1), (2, 0, 1), ((2, 1, 1), ("a",)))
        self.assert_go(P, (2, 5, 1), (2, -5, 1), ((2, 1, 1), ("a",)))
        self.assert_go(P, (2, -5, 1), (2, 5, 1), ((2, -1, 1), ("a",)))
        self.assert_go(P, (2, 5, 1), (2, 9, 1), None)
        row = walls_of((3, 3, 5, 5), (5, 5, 6, 6), (2, 2, 1, 1))
        self.assert_go(row, E, (9, 9, 1), ((1, 1, 1), ("c",)))
        self.assert_go(row, (5, 5, 2), (9, 9, 1), ((3, 3, 1), ("a",)))
        self.assert_go(row, (7, 7, 1), E, ((6, 6, 1), ("b",)))
        self.assert_go(row, (5, 5, 2), (7, 7, 3), None)

    def test_where_several_walls_are(self):
        corner = (("m", (2, 0), (3, 4)), ("k1", (3, -4), (2, 0)), ("k", (2, 0), (5, 0)), ("z", (2, 0), (2, -9)))
        for p in [(2, 0, 1), (4, 0, 1), (9, 0, 1)]:
            self.assert_go(corner, E, p, ((2, 0, 1), ("k", "k1", "m", "z")))
        self.assert_go(corner, (9, 0, 1), E, ((5, 0, 1), ("k",)))
        self.assert_go(walls_of((2, -2, 2, 2), (2, 0, 5, 0)), E, (5, 0, 1), ((2, 0, 1), ("a", "b")))
        self.assert_go(walls_of((2, -2, 2, 2), (2, 0, 5, 0)), (4, 1, 1), (0, -1, 1), ((2, 0, 1), ("a", "b")))

    def test_where_one_is_already(self):
        house = House(P, T, E)
        self.assert_same(house.go(E), None)
        self.assert_state(house, P, T, E)
        self.assert_same([house.undo(), house.undo()], [True, False])
        self.assert_go(P, (7, 0, 3), (7, 0, 3), None)

    def test_places_with_w_above_1(self):
        self.assert_go(P, (1, 1, 3), (5, 1, 3), None)
        self.assert_go(P, (1, 1, 3), (7, 1, 3), ((6, 1, 3), ("a",)))
        self.assert_go(P, (1, 0, 3), (9, 3, 4), ((46, 15, 23), ("a",)))
        self.assert_go(P, (5, 5, 2), (7, -7, 2), None)

    def test_random(self):
        chance = random.Random(101)
        met = 0
        for k in range(300):
            plan = random_plan(chance, k % 8, chance.choice([3, 5, 60]))
            eye, p = random_eye(chance, plan, 6), random_eye(chance, (), 6)
            if plan and chance.random() < 0.3:
                p = (*chance.choice(chance.choice(plan)[1:]), 1)
            wanted = stop_by_the_words(plan, eye, p)
            met += wanted is not None
            house = House(plan, random_tree(chance, plan, 1, 6), eye)
            self.assert_same(house.go(p), wanted)
            self.assert_same(house.eye(), eye if wanted else p)
        self.assertGreater(met, 100)

    def test_bad_places(self):
        house = House(P, T, E)
        for p in BAD_PLACES + [p for p in ODD if repr(p) not in ("(0, 0, 1)", "(1, 0, 1)")]:
            self.assert_error(BadPlace, p, house.go, p)
            self.assert_state(house, P, T, E)
        self.assert_same(house.undo(), False)


class Deeds(HouseCase):
    def test_each_deed_and_its_undoing(self):
        house = House(P, T, E)
        states = [(P, T, E)]
        for deed in [lambda: house.put(("c", (0, 4), (6, 4))), lambda: house.go((0, 3, 1)), lambda: house.take("b"),
                     lambda: house.go((0, 3, 1)), lambda: house.put(("b", (-5, 0), (-5, 9))), lambda: house.take("c"),
                     lambda: house.go((3, 9, 2))]:
            self.assert_same(deed(), None)
            states.append((house.plan(), house.tree(), house.eye()))
        self.assertEqual(len({repr(state) for state in states}), 7)
        for state in states[-2::-1]:
            self.assert_same(house.undo(), True)
            self.assert_state(house, *state)
        self.assert_same([house.undo(), house.undo()], [False, False])
        self.assert_state(house, P, T, E)

    def test_undoing_and_other_deeds_after_it(self):
        house = House(P, T, E)
        house.take("a")
        house.go((3, 0, 1))
        self.assert_same(house.undo(), True)
        house.take("b")
        self.assert_state(house, (), ((-1, 0, 2), (), None, ((-1, 0, 4), (), None, None)), E)
        self.assert_same([house.undo(), house.undo(), house.undo()], [True, True, False])
        self.assert_state(house, P, T, E)

    def test_what_is_refused_is_no_deed(self):
        house = House(P, T, E)
        house.take("b")
        before = (house.plan(), house.tree(), house.eye())
        for deed in [lambda: house.put(("a", (9, 9), (8, 8))), lambda: house.put(("c", (-1, 0), (1, 0))),
                     lambda: house.take("b"), lambda: house.go((0, 0, 2))]:
            with self.assertRaises(EyeError):
                deed()
            self.assert_state(house, *before)
        self.assert_same(house.go((3, 0, 1)), ((2, 0, 1), ("a",)))
        self.assert_state(house, *before)
        self.assert_same([house.undo(), house.undo()], [True, False])
        self.assert_state(house, P, T, E)

    def test_views_after_changes(self):
        house = House(P, T, E)
        self.assert_same(house.view(), view_by_the_words(P, E))
        house.take("a")
        self.assert_same(house.view(), view_by_the_words(P[1:], E))
        house.go((3, 0, 1))
        self.assert_same(house.view(), view_by_the_words(P[1:], (3, 0, 1)))
        house.put(("c", (3, 1), (0, 1)))
        self.assert_same(house.view(), view_by_the_words((P[1], ("c", (3, 1), (0, 1))), (3, 0, 1)))
        house.undo()
        self.assert_same(house.view(), view_by_the_words(P[1:], (3, 0, 1)))

    def test_random_rows_of_deeds(self):
        chance = random.Random(102)
        for k in range(25):
            size = chance.choice([3, 5, 20])
            plan = random_plan(chance, k % 5, size)
            house = House(plan, random_tree(chance, plan, 1, 6), random_eye(chance, plan, 6))
            state, past = (house.plan(), house.tree(), house.eye()), []
            for step in range(15):
                state = self.one_deed(chance, house, state, past, size, f"n{step}")
                self.assert_state(house, *state)
                self.assert_same(is_tree(house.plan(), house.tree()), True)
                wanted = view_by_the_words(state[0], state[2])
                self.assert_same(house.view(), wanted)
                self.assert_same(view_by_walk(*state), wanted)
            while past:
                self.assert_same(house.undo(), True)
                self.assert_state(house, *past.pop())
            self.assert_same(house.undo(), False)

    def one_deed(self, chance, house, state, past, size, name):
        """Does a deed in the house; returns what it leads to by the words, and keeps what was before."""
        plan, tree, eye = state
        kind = chance.choice(["put", "put", "take", "go", "go", "undo"])
        if kind == "undo":
            self.assert_same(house.undo(), past != [])
            return past.pop() if past else state
        if kind == "put" and len(plan) < 9:
            wall = random_addition(chance, plan, size, name)
            if not is_eye_by_the_words((wall,), eye):
                self.assert_error(BadWall, wall, house.put, wall)
                return state
            self.assert_same(house.put(wall), None)
            past.append(state)
            return (plan + (wall,), put_by_the_words(tree, wall), eye)
        if kind == "take" and plan:
            gone = chance.choice(plan)[0]
            self.assert_same(house.take(gone), None)
            past.append(state)
            return (tuple(wall for wall in plan if wall[0] != gone), cleared_by_the_words(tree, gone), eye)
        p = random_eye(chance, (), 6)
        stop = stop_by_the_words(plan, eye, p)
        self.assert_same(house.go(p), stop)
        if stop is not None:
            return state
        past.append(state)
        return (plan, tree, p)

    def test_houses_do_not_share_anything(self):
        one, other = House(P, T, E), House(P, T, E)
        one.take("a")
        self.assert_state(other, P, T, E)
        self.assert_same(other.undo(), False)
        other.go((0, 5, 1))
        self.assert_state(one, *taken_out(P, T, "a"), E)
        third = House(one.plan(), one.tree(), one.eye())
        self.assert_same(third.undo(), False)
        self.assert_same([one.undo(), one.undo(), other.undo(), other.undo()], [True, False, True, False])

    def test_what_is_passed_is_not_changed(self):
        wall, place = ("c", (0, 4), (6, 4)), (0, 3, 1)
        before = exact((P, T, E, wall, place))
        house = House(P, T, E)
        house.put(wall)
        house.go(place)
        house.take("a")
        house.undo()
        self.assertEqual(exact((P, T, E, wall, place)), before)

    def test_a_house_as_any_value(self):
        house = House(P, T, E)
        self.assert_same(is_tree(P, house), False)
        self.assert_error(BadName, house, house.take, house)
        self.assert_error(BadWall, house, house.put, house)
        self.assert_error(BadPlace, house, house.go, house)
        self.assert_error(BadPlan, house, House, house, T, E)


if __name__ == "__main__":
    unittest.main()
