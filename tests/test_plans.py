"""[2.1], [2.2], the names and integers of [0.3] in plans, and faults, of eyeorder/plans.py."""

import random
import unittest
from itertools import combinations, permutations, product

from eyeorder import plans
from eyeorder.errors import BadPlan
from eyeorder.plans import fault, is_plan, plan_text, read_plan
from tests.promises import ODD, P, PromiseCase, first_fault, random_walls, variants, walls_of

BIG = 10 ** 12


def integer_pair(thing):
    return type(thing) is tuple and len(thing) == 2 and all(type(n) is int for n in thing)


def name_by_the_words(thing):
    letters = "abcdefghijklmnopqrstuvwxyz"
    return (type(thing) is str and 1 <= len(thing) <= 8 and thing[0] in letters
            and set(thing) <= set(letters + "0123456789"))


def apart_by_the_words(thing):
    if type(thing) is not tuple or any(type(one) is not tuple or len(one) != 3 for one in thing):
        return False
    if not all(name_by_the_words(n) and integer_pair(p) and integer_pair(q) and p != q for n, p, q in thing):
        return False
    return len({name for name, _, _ in thing}) == len(thing)


class DocumentExamples(PromiseCase):
    def test_plans(self):
        crossing = (("a", (0, 0), (4, 0)), ("b", (1, 0), (1, 3)), ("c", (0, 2), (3, 2)))
        self.assert_same(
            [is_plan(P), fault(crossing), plan_text(P), read_plan(plan_text(P)) == P, read_plan("")],
            [True, ("meet", 1, 2), "wall a 2 -1 2 1\nwall b 4 -3 4 3", True, ()],
        )


class Interface(PromiseCase):
    def test_defined_in_this_file(self):
        for name in ["is_plan", "fault", "plan_text", "read_plan"]:
            self.assertEqual(getattr(plans, name).__module__, "eyeorder.plans")
            self.assertEqual(getattr(plans, name).__name__, name)

    def test_parameters_by_name(self):
        self.assert_same(is_plan(thing=P), True)
        self.assert_same(fault(walls=P), None)
        self.assert_same(plan_text(plan=P), "wall a 2 -1 2 1\nwall b 4 -3 4 3")
        self.assert_same(read_plan(text="wall a 2 -1 2 1"), P[:1])


class PlanCase(PromiseCase):
    def assert_plan(self, walls):
        self.assert_same(is_plan(walls), True)
        self.assert_same(fault(walls), None)
        self.assert_same(read_plan(plan_text(walls)), walls)

    def assert_fault(self, walls, i, j):
        self.assert_same(is_plan(walls), False)
        self.assert_same(fault(walls), ("meet", i, j))
        self.assert_error(BadPlan, walls, plan_text, walls)

    def assert_no_walls(self, thing):
        self.assert_same(is_plan(thing), False)
        self.assert_error(BadPlan, thing, fault, thing)
        self.assert_error(BadPlan, thing, plan_text, thing)


class Meetings(PlanCase):
    def test_no_wall_and_one_wall(self):
        self.assert_plan(())
        self.assert_plan(walls_of((0, 0, 0, 1)))

    def test_walls_that_touch_at_ends(self):
        for one, other in product([(0, 0, 2, 3), (2, 3, 0, 0)], [(2, 3, 5, 1), (5, 1, 2, 3)]):
            self.assert_plan(walls_of(one, other))
        self.assert_plan(walls_of((0, 0, 4, 0), (4, 0, 4, 4), (4, 4, 0, 4), (0, 4, 0, 0)))
        self.assert_plan(walls_of((0, 0, 4, 0), (0, 0, 0, 4), (-4, 0, 0, 0), (0, -4, 0, 0), (0, 0, 3, 3)))

    def test_walls_that_end_on_another_walls_inside(self):
        self.assert_plan(walls_of((0, 0, 4, 0), (1, 0, 1, 3)))
        self.assert_plan(walls_of((1, 3, 1, 0), (0, 0, 4, 0)))
        self.assert_plan(walls_of((0, 0, 6, 3), (2, 1, 5, -7), (4, 2, 0, 9)))
        self.assert_plan(walls_of((0, 0, 4, 0), (2, 0, 2, 3), (2, 0, 3, -3)))

    def test_walls_that_cross(self):
        self.assert_fault(walls_of((-2, 0, 2, 0), (0, -2, 0, 2)), 0, 1)
        self.assert_fault(walls_of((0, 0, 1, 1), (1, 0, 0, 1)), 0, 1)
        self.assert_fault(walls_of((0, 0, 7, 2), (3, 0, 3, 1)), 0, 1)
        self.assert_fault(walls_of((0, 0, 7, 2), (3, 1, 3, -5)), 0, 1)

    def test_walls_that_nearly_cross(self):
        self.assert_plan(walls_of((0, 0, 7, 2), (3, 1, 3, 2)))
        self.assert_plan(walls_of((0, 0, 7, 2), (8, 1, 6, 3)))
        self.assert_plan(walls_of((-60, -60, 60, 59), (-59, -59, -60, 60)))
        self.assert_fault(walls_of((-60, -60, 60, 59), (-59, -60, -60, 60)), 0, 1)

    def test_walls_on_one_line(self):
        for across in (False, True):
            def turned(x, y, u, v):
                return (y, x, v, u) if across else (x, y, u, v)
            base = turned(0, 0, 4, 2)
            for other in [(4, 2, 6, 3), (6, 3, 4, 2), (-2, -1, 0, 0), (6, 3, 8, 4), (-4, -2, -2, -1)]:
                self.assert_plan(walls_of(base, turned(*other)))
                self.assert_plan(walls_of(turned(*other), base))
            for other in [(0, 0, 4, 2), (4, 2, 0, 0), (2, 1, 6, 3), (6, 3, 2, 1), (-2, -1, 2, 1), (0, 0, 2, 1),
                          (2, 1, 4, 2), (-2, -1, 6, 3), (0, 0, 6, 3), (6, 3, 0, 0)]:
                self.assert_fault(walls_of(base, turned(*other)), 0, 1)
                self.assert_fault(walls_of(turned(*other), base), 0, 1)
        self.assert_plan(walls_of((0, 0, 0, 4), (0, 4, 0, 6), (0, 8, 0, 7)))
        self.assert_fault(walls_of((0, 0, 0, 4), (0, 1, 0, 2)), 0, 1)
        self.assert_fault(walls_of((0, 1, 0, 2), (0, 4, 0, 0)), 0, 1)
        self.assert_fault(walls_of((1, 0, 2, 0), (4, 0, 0, 0)), 0, 1)

    def test_parallel_walls(self):
        self.assert_plan(walls_of((0, 0, 4, 0), (0, 1, 4, 1), (4, 2, 0, 2)))
        self.assert_plan(walls_of((0, 0, 4, 2), (1, 0, 5, 2), (4, 3, 0, 1)))

    def test_long_integers(self):
        self.assert_fault(walls_of((0, 0, BIG, BIG + 1), (1, 0, BIG - 1, BIG + 1)), 0, 1)
        self.assert_plan(walls_of((0, 0, 3 * BIG, 3 * BIG + 3), (BIG, BIG + 1, BIG, 5 * BIG)))
        self.assert_plan(walls_of((0, 0, 3 * BIG, 3 * BIG + 3), (BIG, BIG + 2, BIG, 5 * BIG)))
        self.assert_fault(walls_of((0, 0, 3 * BIG, 3 * BIG + 3), (BIG, BIG, BIG, 5 * BIG)), 0, 1)
        self.assert_plan(walls_of((0, 0, 3 * BIG, 3 * BIG + 3), (3 * BIG, 3 * BIG + 3, 4 * BIG, 4 * BIG + 4)))
        self.assert_fault(walls_of((0, 0, 3 * BIG, 3 * BIG + 3), (2 * BIG, 2 * BIG + 2, 4 * BIG, 4 * BIG + 4)), 0, 1)

    def test_all_pairs_of_walls_of_a_small_grid(self):
        grid = list(product(range(3), repeat=2))
        segments = [p + q for p, q in permutations(grid, 2)]
        for one, other in product(segments, repeat=2):
            walls = walls_of(one, other)
            self.assertEqual(fault(walls), first_fault(walls), walls)
            self.assertEqual(is_plan(walls), first_fault(walls) is None, walls)

    def test_all_pairs_of_walls_of_a_larger_grid(self):
        grid = list(product(range(-1, 3), repeat=2))
        segments = [p + q for p, q in combinations(grid, 2)]
        for one, other in product(segments, repeat=2):
            walls = walls_of(one, other)
            self.assertEqual(fault(walls), first_fault(walls), walls)

    def test_three_walls_through_one_point(self):
        self.assert_fault(walls_of((-2, 0, 0, 0), (-1, -2, 1, 2), (0, 0, 3, 1), (0, -3, 0, 3)), 1, 3)


class Faults(PlanCase):
    def test_the_least_pair_among_several(self):
        crossing = [(-9, 0, 9, 0), (0, -9, 0, 9)]
        apart = [(20, k, 30, k) for k in range(4)]
        for i, j in combinations(range(6), 2):
            segments = list(apart)
            segments.insert(i, crossing[0])
            segments.insert(j, crossing[1])
            self.assert_fault(walls_of(*segments), i, j)

    def test_the_first_position_counts_before_the_second(self):
        # The pairs (0, 3) and (1, 2): the first one has the later second wall.
        self.assert_fault(walls_of((0, 0, 4, 0), (10, 0, 14, 0), (12, -1, 12, 1), (2, -1, 2, 1)), 0, 3)
        # The pairs (0, 2), (0, 3) and (1, 2).
        self.assert_fault(walls_of((0, 0, 9, 0), (0, 1, 9, 1), (2, -1, 2, 2), (5, -1, 5, 1)), 0, 2)

    def test_random_walls(self):
        chance = random.Random(2)
        for many in range(2, 10):
            for _ in range(150):
                walls = random_walls(chance, many, chance.choice([2, 4, 12, 60]))
                self.assert_same(fault(walls), first_fault(walls))
                self.assert_same(fault(walls), fault(walls))
                self.assert_same(is_plan(walls), first_fault(walls) is None)

    def test_many_walls(self):
        apart = tuple((f"w{k}", (0, k), (9, k)) for k in range(40))
        self.assert_plan(apart)
        self.assert_fault(apart + (("z", (3, 37), (4, 40)),), 38, 40)

    def test_a_value_that_is_not_walls_counts_before_a_fault(self):
        crossing = walls_of((-2, 0, 2, 0), (0, -2, 0, 2))
        self.assert_no_walls(crossing + (("c", (0, 0), (0, 0)),))
        self.assert_no_walls(crossing + (("a", (7, 7), (8, 8)),))
        self.assert_no_walls(crossing + ("c",))
        self.assert_no_walls(list(crossing))


class Names(PlanCase):
    def test_good_names(self):
        for name in ["a", "z", "a0", "z9", "abcdefgh", "a1234567", "m5m5m5m5", "wall", "none", "x" * 8]:
            self.assert_plan(((name, (0, 0), (1, 0)),))

    def test_every_letter_and_digit(self):
        for sign in "abcdefghijklmnopqrstuvwxyz":
            self.assert_plan(((sign, (0, 0), (1, 0)),))
        for sign in "abcdefghijklmnopqrstuvwxyz0123456789":
            self.assert_plan((("a" + sign, (0, 0), (1, 0)),))

    def test_bad_names(self):
        for name in ["", "abcdefghi", "a12345678", "x" * 200, "A", "aB", "Z", "0", "9a", "1", "a_b", "a-b", "_a", "a.",
                     "a b", " a", "a ", "a\n", "\na", "a\t", "`", "{", "a/", "a:", "\u00e4", "a\u00e9", "\u00df",
                     "\u0131", "\u0430", "\uff41", "a\u0663", "a\u00b2", "\u0663", "a\uff11", "\u00aa", "a\u0301",
                     "\U0001d41a", "\ufb01"]:
            self.assert_no_walls(((name, (0, 0), (1, 0)),))

    def test_names_that_are_no_strings(self):
        for name in [None, True, 1, ("a",), ["a"], {"a": 1}, [], {}, (), ["a", "b"]]:
            self.assert_no_walls(((name, (0, 0), (1, 0)),))
            self.assert_no_walls((P[0], (name, (0, 0), (1, 0))))

    def test_a_name_twice(self):
        self.assert_no_walls((P[0], ("a", (9, 9), (8, 8))))
        self.assert_no_walls((P[0], P[1], P[0]))
        self.assert_no_walls((P[0], P[1], ("c", (7, 7), (8, 8)), ("b", (9, 9), (8, 9))))
        self.assert_plan((("a", (0, 0), (1, 0)), ("aa", (0, 1), (1, 1)), ("a0", (0, 2), (1, 2))))


class Ends(PlanCase):
    def test_equal_ends(self):
        for p in [(0, 0), (3, -5), (BIG, BIG)]:
            self.assert_no_walls((("a", p, p),))
        self.assert_no_walls(P + (("c", (9, 9), (9, 9)),))
        self.assert_plan(walls_of((3, 5, 3, 6)))
        self.assert_plan(walls_of((3, 5, 4, 5)))
        self.assert_plan(walls_of((3, 5, 5, 3)))

    def test_wrong_ends(self):
        for end in [[0, 0], (True, 0), (0, False), (True, False), (0, 0, 1), (0,), (), "00", ("0", "0"), (None, 0),
                    ((0,), (0,)), ([0], 0), {0: 0, 1: 0}, None, 0, (0, (0, 0)), ((0, 0),)]:
            self.assert_no_walls((("a", end, (5, 5)),))
            self.assert_no_walls((("a", (5, 5), end),))
            self.assert_no_walls((("a", end, end),))
            self.assert_no_walls(P + (("c", end, (5, 5)),))


class AnyValue(PlanCase):
    def test_odd_values(self):
        for thing in ODD:
            if apart_by_the_words(thing):
                self.assert_plan(thing)
            else:
                self.assert_no_walls(thing)

    def test_walls_in_other_forms(self):
        a, b = P
        for thing in [a, [a, b], (list(a), b), (a, (b,)), ((a, b),), (a, b, None), (a, ()), {"a": a}, {a: b},
                      (("a", (0, 0)),), (("a", (0, 0), (1, 0), 1),), (((0, 0), (1, 0), "a"),), (("a", 0, 0, 1, 0),),
                      ({"a": 1, "b": 2, "c": 3},), ("abc",)]:
            self.assert_no_walls(thing)

    def test_plans_with_parts_replaced_omitted_exchanged_and_repeated(self):
        for thing in variants(P):
            before = repr(thing)
            with self.subTest(thing=thing):
                if not apart_by_the_words(thing):
                    self.assert_no_walls(thing)
                elif first_fault(thing) is None:
                    self.assert_plan(thing)
                else:
                    self.assert_same(fault(thing), first_fault(thing))
            self.assertEqual(repr(thing), before)

    def test_what_the_package_returns(self):
        crossing = walls_of((-2, 0, 2, 0), (0, -2, 0, 2))
        for thing in [fault(crossing), plan_text(P), (fault(crossing),), (P, P), P + (P,)]:
            self.assert_no_walls(thing)
        self.assert_plan(read_plan(plan_text(P)))


if __name__ == "__main__":
    unittest.main()
