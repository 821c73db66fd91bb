"""[6.1] to [6.3], and the functions of eyeorder/pictures.py."""

import random
import time
import unittest
from fractions import Fraction
from math import gcd

from eyeorder import pictures
from eyeorder.errors import BadCamera, BadNumber, BadPlan
from eyeorder.pictures import column_direction, is_camera, picture, shown
from tests.oracles import is_eye_by_the_words, point, random_plan, sees_by_the_words
from tests.promises import DEEP, ODD, P, PromiseCase, variants, walls_of
from tests.test_walks import random_eye

BIG = 999999999999
E = (0, 0, 1)
CAMERA = (E, (1, 0), 4, 3)
BAD_PLANS = [list(P), None, (P[0], P[0]), "", walls_of((0, 0, 2, 0), (1, -1, 1, 1))]


def are_integers(thing, many):
    return type(thing) is tuple and len(thing) == many and all(type(n) is int for n in thing)


def is_camera_by_the_words(plan, thing):
    if type(thing) is not tuple or len(thing) != 4:
        return False
    eye, forward, wide, columns = thing
    if not are_integers(eye, 3) or eye[2] < 1 or gcd(*eye) != 1 or not is_eye_by_the_words(plan, eye):
        return False
    if not are_integers(forward, 2) or gcd(*forward) != 1:
        return False
    return type(wide) is int and 1 <= wide <= 8 and type(columns) is int and 1 <= columns <= 60


def direction_by_the_words(camera, k):
    _, (x, y), wide, columns = camera
    v = (4 * columns * x + (2 * k + 1 - columns) * wide * y, 4 * columns * y + (2 * k + 1 - columns) * wide * -x)
    return v[0] // gcd(*v), v[1] // gcd(*v)


def shown_by_the_words(plan, camera):
    found = []
    for k in range(camera[3]):
        told = sees_by_the_words(plan, camera[0], direction_by_the_words(camera, k))
        if told is not None:
            place, names = told
            (a, b), (c, d), (x, y) = point(camera[0]), point(place), camera[1]
            depth = ((c - a) * x + (d - b) * y) / Fraction(x * x + y * y)
            told = (names[0], place, (depth.numerator, depth.denominator))
        found.append(told)
    return tuple(found)


def sign_by_the_words(told, rows, i):
    if told is None:
        return "."
    name, _, (top, bottom) = told
    return name[0] if abs(2 * i + 1 - rows) * Fraction(top, bottom) <= rows else "."


def picture_by_the_words(plan, camera, rows):
    told = shown_by_the_words(plan, camera)
    return tuple("".join(sign_by_the_words(one, rows, i) for one in told) for i in range(rows))


def random_camera(chance, plan, size, columns):
    while True:
        forward = (chance.randint(-9, 9), chance.randint(-9, 9))
        if gcd(*forward) == 1:
            return (random_eye(chance, plan, size), forward, chance.randint(1, 8), columns)


class DocumentExamples(PromiseCase):
    def test_the_two_walls(self):
        self.assert_same(
            [column_direction(P, CAMERA, 0), shown(P, CAMERA), picture(P, CAMERA, 4)],
            [(3, 2), (("b", (12, 8, 3), (4, 1)), ("a", (2, 0, 1), (2, 1)), ("b", (12, -8, 3), (4, 1))),
             ("...", "bab", "bab", "...")])


class Interface(PromiseCase):
    def test_defined_in_this_file(self):
        for name in ["is_camera", "column_direction", "shown", "picture"]:
            self.assertEqual(getattr(pictures, name).__module__, "eyeorder.pictures")
            self.assertEqual(getattr(pictures, name).__name__, name)

    def test_parameters_by_name(self):
        self.assert_same(is_camera(thing=CAMERA, plan=P), True)
        self.assert_same(column_direction(k=0, camera=CAMERA, plan=P), (3, 2))
        self.assert_same(shown(camera=CAMERA, plan=P), shown(P, CAMERA))
        self.assert_same(picture(rows=4, camera=CAMERA, plan=P), ("...", "bab", "bab", "..."))


class Cameras(PromiseCase):
    def assert_camera(self, plan, thing, wanted):
        self.assertEqual(is_camera_by_the_words(plan, thing), wanted, "the test itself is wrong")
        self.assert_same(is_camera(plan, thing), wanted)

    def test_eyes(self):
        for eye in [E, (2, 2, 1), (5, 0, 3), (2, 3, 2), (60, -60, 1), (4, 7, 2), (BIG, 1, 7)]:
            self.assert_camera(P, (eye, *CAMERA[1:]), True)
        for eye in [(2, 0, 1), (2, 1, 1), (2, -1, 1), (4, 1, 2), (4, 3, 1), (4, 0, 1), (0, 0, 2), (2, 4, 2), (0, 0, 0),
                    (1, 1, -1), (0, 0), (0, 0, True), [0, 0, 1], None, "eye", (0, 0, 1, 1), (0, None, 1)]:
            self.assert_camera(P, (eye, *CAMERA[1:]), False)
        self.assert_camera((), ((2, 0, 1), *CAMERA[1:]), True)

    def test_directions(self):
        for forward in [(1, 0), (0, 1), (-1, 0), (0, -1), (3, -4), (BIG, 1), (-BIG, BIG - 1)]:
            self.assert_camera(P, (E, forward, 4, 3), True)
        for forward in [(0, 0), (2, 0), (0, -2), (4, 2), (-3, -3), (BIG, BIG), (1,), (1, 0, 0), (1, 0, 1), [1, 0],
                        (True, 0), (1, False), None, 1, "10", ("1", 0)]:
            self.assert_camera(P, (E, forward, 4, 3), False)

    def test_wide_and_columns(self):
        for wide in [1, 2, 7, 8]:
            self.assert_camera(P, (E, (1, 0), wide, 3), True)
        for wide in [0, 9, -1, BIG, True, False, None, "4", (4,), [4], {4: 4}]:
            self.assert_camera(P, (E, (1, 0), wide, 3), False)
        for columns in [1, 2, 59, 60]:
            self.assert_camera(P, (E, (1, 0), 4, columns), True)
        for columns in [0, 61, -1, BIG, True, False, None, "3", (3,), [3], {}]:
            self.assert_camera(P, (E, (1, 0), 4, columns), False)

    def test_other_forms(self):
        for thing in [list(CAMERA), CAMERA[:3], CAMERA + (3,), CAMERA[::-1], (), None, dict(enumerate(CAMERA)), DEEP,
                      (CAMERA,), (*CAMERA[:2], 3.0, 3), ((1, 0), E, 4, 3)]:
            self.assert_camera(P, thing, False)

    def test_any_value(self):
        for thing in ODD:
            self.assert_camera(P, thing, False)
            self.assert_camera((), thing, False)
        for camera in (CAMERA, ((5, 0, 3), (2, -1), 1, 60)):
            for thing in variants(camera):
                self.assert_same(is_camera(P, thing), is_camera_by_the_words(P, thing))
                self.assert_same(is_camera((), thing), is_camera_by_the_words((), thing))

    def test_the_value_is_left_as_it_was(self):
        thing = [[0, 0, 1], [1, 0], 4, 3, {"a": [1]}]
        before = repr(thing)
        self.assert_same(is_camera(P, thing), False)
        self.assert_same(is_camera(P, tuple(thing)), False)
        self.assertEqual(repr(thing), before)

    def test_only_a_bad_plan_is_refused(self):
        for plan in BAD_PLANS:
            self.assert_error(BadPlan, plan, is_camera, plan, CAMERA)
            self.assert_error(BadPlan, plan, is_camera, plan, None)


class Directions(PromiseCase):
    def directions(self, forward, wide, columns):
        camera = (E, forward, wide, columns)
        return [column_direction((), camera, k) for k in range(columns)]

    def test_one_column_looks_ahead(self):
        for forward in [(1, 0), (0, 1), (-1, 0), (0, -1), (3, -4), (BIG, 1)]:
            for wide in (1, 5, 8):
                self.assert_same(self.directions(forward, wide, 1), [forward])

    def test_along_the_axes(self):
        self.assert_same(self.directions((1, 0), 4, 3), [(3, 2), (1, 0), (3, -2)])
        self.assert_same(self.directions((0, 1), 4, 3), [(-2, 3), (0, 1), (2, 3)])
        self.assert_same(self.directions((-1, 0), 4, 3), [(-3, -2), (-1, 0), (-3, 2)])
        self.assert_same(self.directions((0, -1), 4, 3), [(2, -3), (0, -1), (-2, -3)])
        self.assert_same(self.directions((1, 0), 1, 2), [(8, 1), (8, -1)])
        self.assert_same(self.directions((1, 0), 8, 2), [(1, 1), (1, -1)])
        self.assert_same(self.directions((3, -4), 8, 2), [(7, -1), (-1, -7)])

    def test_sixty_columns(self):
        for forward in [(1, 0), (2, -7), (-5, 3)]:
            for wide in range(1, 9):
                camera = (E, forward, wide, 60)
                wanted = [direction_by_the_words(camera, k) for k in range(60)]
                self.assert_same(self.directions(forward, wide, 60), wanted)

    def test_large_numbers(self):
        for forward in [(BIG, 1), (1 - BIG, BIG), (-1, -BIG)]:
            for columns in (1, 2, 7, 60):
                camera = (E, forward, 3, columns)
                self.assert_same(self.directions(forward, 3, columns),
                                 [direction_by_the_words(camera, k) for k in range(columns)])

    def test_from_left_to_right_without_a_common_divisor(self):
        chance = random.Random(61)
        for k in range(80):
            camera = random_camera(chance, (), 5, 1 + k % 60)
            found = [column_direction((), camera, k) for k in range(camera[3])]
            self.assert_same(found, [direction_by_the_words(camera, k) for k in range(camera[3])])
            for (x, y), (u, v) in zip(found, found[1:]):
                self.assertLess(x * v - y * u, 0)
            for x, y in found:
                self.assertEqual(gcd(x, y), 1)
                self.assertGreater(x * camera[1][0] + y * camera[1][1], 0)

    def test_bad_numbers(self):
        for columns in (1, 3, 60):
            camera = (E, (1, 0), 4, columns)
            for k in [-1, columns, columns + 1, BIG, -BIG, True, False, None, "0", (0,), [0], {}, "", DEEP]:
                self.assert_error(BadNumber, k, column_direction, P, camera, k)
        for k in ODD:
            if type(k) is not int or not 0 <= k < 3:
                self.assert_error(BadNumber, k, column_direction, P, CAMERA, k)


class Shown(PromiseCase):
    def assert_shown(self, plan, camera, wanted):
        self.assert_same(shown_by_the_words(plan, camera), wanted)
        self.assert_same(shown(plan, camera), wanted)

    def test_nothing(self):
        self.assert_shown((), CAMERA, (None, None, None))
        self.assert_shown(P, (E, (-1, 0), 4, 3), (None, None, None))
        self.assert_shown(P, (E, (0, 1), 4, 1), (None,))
        self.assert_shown(P, (E, (1, 0), 8, 3), (None, ("a", (2, 0, 1), (2, 1)), None))

    def test_an_end(self):
        self.assert_shown(walls_of((2, 0, 4, 1)), (E, (1, 0), 1, 1), (("a", (2, 0, 1), (2, 1)),))
        self.assert_shown(walls_of((2, 2, 4, 1)), (E, (1, 0), 8, 2), (("a", (2, 2, 1), (2, 1)), None))

    def test_a_corner_shows_the_first_name(self):
        corner = (("m", (2, 0), (3, 4)), ("k1", (3, -4), (2, 0)), ("k", (2, 0), (5, 0)), ("z", (2, 0), (2, -9)))
        for plan in (corner, corner[::-1]):
            self.assert_shown(plan, (E, (1, 0), 4, 1), (("k", (2, 0, 1), (2, 1)),))
        self.assert_shown(corner[:2], (E, (1, 0), 4, 1), (("k1", (2, 0, 1), (2, 1)),))
        self.assert_shown(corner[::3], (E, (1, 0), 4, 1), (("m", (2, 0, 1), (2, 1)),))

    def test_a_wall_along_the_ray(self):
        plan = walls_of((7, 0, 3, 0), (9, -1, 9, 1))
        self.assert_shown(plan, (E, (1, 0), 4, 1), (("a", (3, 0, 1), (3, 1)),))
        self.assert_shown(plan, ((8, 0, 1), (-1, 0), 4, 1), (("a", (7, 0, 1), (1, 1)),))

    def test_forward_that_is_no_unit_vector(self):
        plan = walls_of((6, 0, 0, 6))
        self.assert_shown(plan, (E, (1, 1), 4, 1), (("a", (3, 3, 1), (3, 1)),))
        self.assert_shown(walls_of((5, -9, 5, 9)), (E, (2, 1), 4, 1), (("a", (10, 5, 2), (5, 2)),))
        self.assert_shown(walls_of((-1, 4, 5, -4)), (E, (3, 4), 4, 1), (("a", (3, 4, 3), (1, 3)),))
        self.assert_shown(walls_of((0, 1, 1, 0)), (E, (3, 4), 4, 1), (("a", (3, 4, 7), (1, 7)),))

    def test_places_and_depths_with_fractions(self):
        self.assert_shown(walls_of((2, 0, 3, 5)), (E, (3, 1), 4, 1), (("a", (15, 5, 7), (5, 7)),))
        self.assert_shown(walls_of((2, -2, 3, 5)), ((1, 1, 2), (1, 0), 4, 1), (("a", (33, 7, 14), (13, 7)),))
        self.assert_shown(P, ((1, 1, 3), (1, 0), 4, 3), (
            ("b", (36, 25, 9), (11, 3)), ("a", (6, 1, 3), (5, 3)), ("a", (18, -7, 9), (5, 3))))

    def test_depths_have_no_common_divisor(self):
        chance = random.Random(62)
        for k in range(120):
            plan = random_plan(chance, k % 7, chance.choice([4, 9, 60]))
            camera = random_camera(chance, plan, 9, chance.randint(1, 12))
            found = shown(plan, camera)
            self.assert_same(found, shown_by_the_words(plan, camera))
            for told in found:
                if told is not None:
                    self.assertEqual(gcd(*told[2]), 1)
                    self.assertGreater(min(told[2]), 0)

    def test_far_eyes_and_large_directions(self):
        for camera in [((-60, 59, 1), (BIG, 1 - BIG), 8, 5), ((119, -7, 2), (-BIG, 2), 3, 4)]:
            self.assert_same(shown(P, camera), shown_by_the_words(P, camera))


class Pictures(PromiseCase):
    def assert_picture(self, plan, camera, rows, wanted):
        self.assert_same(picture_by_the_words(plan, camera, rows), wanted)
        self.assert_same(picture(plan, camera, rows), wanted)

    def test_no_walls(self):
        self.assert_picture((), CAMERA, 1, ("...",))
        self.assert_picture((), CAMERA, 2, ("...", "..."))
        self.assert_picture((), (E, (2, 3), 8, 60), 40, ("." * 60,) * 40)

    def test_one_row_and_forty(self):
        # In the one row nothing is too far away.
        self.assert_picture(walls_of((60, -60, 60, 60)), (E, (1, 0), 4, 3), 1, ("aaa",))
        self.assert_picture(P, CAMERA, 40, ("...",) * 10 + (".a.",) * 5 + ("bab",) * 10 + (".a.",) * 5 + ("...",) * 10)

    def test_just_at_the_bound(self):
        # Of four rows, the first one is 3 / 4 from the middle, the second one 1 / 4.
        for x, wanted in [(4, ("..", "aa", "aa", "..")), (5, ("..",) * 4)]:
            self.assert_picture(walls_of((x, -9, x, 9)), (E, (1, 0), 1, 2), 4, wanted)
        # A depth of 4 / 3 is just small enough for the first row, one a little greater is not.
        plan = walls_of((4, -9, 4, 9))
        self.assert_picture(plan, ((8, 0, 3), (1, 0), 1, 1), 4, ("a",) * 4)
        self.assert_picture(plan, ((53, 0, 20), (1, 0), 1, 1), 4, (".", "a", "a", "."))
        for x, wanted in [(2, "a"), (3, ".")]:
            self.assert_picture(walls_of((x, -9, x, 9)), (E, (1, 0), 1, 1), 2, (wanted,) * 2)
        for x, wanted in [(3, "."), (2, "."), (1, "a")]:
            self.assert_picture(walls_of((x, -9, x, 9)), (E, (1, 0), 1, 1), 3, (wanted, "a", wanted))

    def test_the_first_letter_of_the_name(self):
        plan = (("wall", (1, -1), (1, 1)), ("zb3", (1, 1), (1, 5)), ("k0", (1, -1), (1, -5)))
        self.assert_picture(plan, (E, (1, 0), 8, 3), 1, ("zwk",))

    def test_very_near_to_a_wall(self):
        plan = walls_of((1, -9, 1, 9))
        for eye in [(999, 0, 1000), (0, 0, 1), (49, 1, 50)]:
            self.assert_picture(plan, (eye, (1, 0), 1, 4), 40, ("aaaa",) * 40)
        self.assert_picture(plan, ((1001, 0, 1000), (-1, 0), 8, 2), 13, ("aa",) * 13)

    def test_random(self):
        chance = random.Random(63)
        for k in range(80):
            plan = random_plan(chance, k % 8, chance.choice([3, 6, 60]))
            camera = random_camera(chance, plan, 6, chance.randint(1, 20))
            for rows in (1 + k % 40, 40 - k % 7):
                found = picture(plan, camera, rows)
                self.assert_same(found, picture_by_the_words(plan, camera, rows))
                self.assert_same([len(row) for row in found], [camera[3]] * rows)
                self.assert_same(found, found[::-1])

    def test_bad_rows(self):
        for rows in [0, 41, -1, BIG, -BIG, True, False, None, "4", (4,), [4], {}, DEEP]:
            self.assert_error(BadNumber, rows, picture, P, CAMERA, rows)
        for rows in ODD:
            if type(rows) is not int or not 1 <= rows <= 40:
                self.assert_error(BadNumber, rows, picture, P, CAMERA, rows)
                self.assert_error(BadNumber, rows, picture, (), CAMERA, rows)


class Refusals(PromiseCase):
    CALLS = [(column_direction, (0,)), (column_direction, (None,)), (column_direction, (3,)), (shown, ()),
             (picture, (4,)), (picture, (0,)), (picture, (True,))]

    def test_bad_plans_come_first(self):
        for plan in BAD_PLANS:
            for function, more in self.CALLS:
                self.assert_error(BadPlan, plan, function, plan, CAMERA, *more)
                self.assert_error(BadPlan, plan, function, plan, None, *more)

    def test_bad_cameras_come_next(self):
        for camera in [None, list(CAMERA), CAMERA[:3], ((2, 0, 1), *CAMERA[1:]), (E, (2, 0), 4, 3), (E, (1, 0), 9, 3),
                       (E, (1, 0), 0, 3), (E, (1, 0), 4, 61), (E, (1, 0), 4, 0), (E, (1, 0), True, 3), DEEP, "camera"]:
            for function, more in self.CALLS:
                self.assert_error(BadCamera, camera, function, P, camera, *more)
        for camera in ODD:
            for function, more in self.CALLS:
                self.assert_error(BadCamera, camera, function, (), camera, *more)


class Sizes(PromiseCase):
    def test_sixty_columns_forty_rows_nine_walls(self):
        chance = random.Random(64)
        for size in (9, 60):
            plan = random_plan(chance, 9, size)
            camera = random_camera(chance, plan, size, 60)
            begin = time.process_time()
            found = picture(plan, camera, 40)
            self.assertLess(time.process_time() - begin, 2)
            self.assert_same(found, picture_by_the_words(plan, camera, 40))


if __name__ == "__main__":
    unittest.main()
