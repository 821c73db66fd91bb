"""[1.1], [1.2] and the interface of eyeorder/places.py."""

import unittest
from fractions import Fraction
from itertools import product
from math import gcd

from eyeorder import places
from eyeorder.errors import BadLine, BadPlace
from eyeorder.places import is_direction, is_line, is_place, meeting, place, side, through
from tests.promises import ODD, PromiseCase, variants

BIG = 10 ** 12


def whole(thing, many):
    return type(thing) is tuple and len(thing) == many and all(type(n) is int for n in thing)


def share_a_divisor(numbers):
    largest = max(abs(n) for n in numbers)
    if largest > 1000:
        return gcd(*numbers) > 1
    return any(all(n % d == 0 for n in numbers) for d in range(2, max(largest, 2) + 1))


def place_by_the_words(thing):
    return whole(thing, 3) and thing[2] >= 1 and not share_a_divisor(thing)


def line_by_the_words(thing):
    return whole(thing, 3) and thing[:2] != (0, 0) and not share_a_divisor(thing)


def direction_by_the_words(thing):
    return whole(thing, 2) and thing != (0, 0) and not share_a_divisor(thing)


def point(p):
    return Fraction(p[0], p[2]), Fraction(p[1], p[2])


def worth(line, x, y):
    return line[0] * x + line[1] * y + line[2]


PLACES = [p for p in product(range(-3, 4), range(-3, 4), range(1, 4)) if place_by_the_words(p)]
LINES = [line for line in product(range(-2, 3), repeat=3) if line_by_the_words(line)]
NO_PLACES = [thing for thing in ODD if not place_by_the_words(thing)]
NO_LINES = [thing for thing in ODD if not line_by_the_words(thing)]


class DocumentExamples(PromiseCase):
    def test_places(self):
        self.assert_same(
            [place(2, 4, -6), is_place((2, 4, 6)), is_line((0, 0, 1)), is_direction((0, -1)),
             through((0, 0, 1), (1, 0, 1)), through((2, -1, 1), (2, 1, 1)), side((-1, 0, 2), (0, 0, 1)),
             meeting((0, 1, 0), (-1, 2, 1)), meeting((0, 1, 0), (0, 2, 3))],
            [(-1, -2, 3), False, False, True, (0, 1, 0), (-1, 0, 2), 1, (1, 0, 1), None],
        )


class Interface(PromiseCase):
    def test_defined_in_this_file(self):
        for name in ["is_place", "is_line", "is_direction", "place", "through", "side", "meeting"]:
            self.assertEqual(getattr(places, name).__module__, "eyeorder.places")
            self.assertEqual(getattr(places, name).__name__, name)

    def test_parameters_by_name(self):
        self.assert_same(is_place(thing=(0, 0, 1)), True)
        self.assert_same(is_line(thing=(0, 1, 0)), True)
        self.assert_same(is_direction(thing=(0, 1)), True)
        self.assert_same(place(w=-6, y=4, x=2), (-1, -2, 3))
        self.assert_same(through(q=(1, 0, 1), p=(0, 0, 1)), (0, 1, 0))
        self.assert_same(side(p=(0, 0, 1), line=(-1, 0, 2)), 1)
        self.assert_same(meeting(other=(-1, 2, 1), one=(0, 1, 0)), (1, 0, 1))


class Kinds(PromiseCase):
    def test_is_place_of_all_small_triples(self):
        for thing in product(range(-6, 7), repeat=3):
            self.assert_same(is_place(thing), place_by_the_words(thing))

    def test_is_line_of_all_small_triples(self):
        for thing in product(range(-6, 7), repeat=3):
            self.assert_same(is_line(thing), line_by_the_words(thing))

    def test_is_direction_of_all_small_pairs(self):
        for thing in product(range(-30, 31), repeat=2):
            self.assert_same(is_direction(thing), direction_by_the_words(thing))

    def test_zero_beside_other_integers(self):
        self.assert_same([is_place((0, 0, w)) for w in (-1, 0, 1, 2)], [False, False, True, False])
        self.assert_same([is_line((0, n, 0)) for n in (-2, -1, 0, 1, 2)], [False, True, False, True, False])
        self.assert_same([is_line((n, 0, 0)) for n in (-2, -1, 0, 1, 2)], [False, True, False, True, False])
        self.assert_same([is_line((0, 0, n)) for n in (-1, 0, 1)], [False, False, False])
        self.assert_same([is_direction((n, 0)) for n in (-2, -1, 0, 1, 2)], [False, True, False, True, False])
        self.assert_same([is_direction((0, n)) for n in (-2, -1, 0, 1, 2)], [False, True, False, True, False])

    def test_common_divisors_of_two_but_not_of_three(self):
        self.assert_same([is_place((6, 10, 15)), is_line((6, 10, 15)), is_line((2, 2, 1)), is_place((2, 2, 1))],
                         [True, True, True, True])
        self.assert_same([is_place((6, 12, 15)), is_line((6, -12, 15))], [False, False])

    def test_long_integers(self):
        self.assert_same([is_place((BIG, BIG + 1, BIG)), is_place((BIG, 2 * BIG, BIG)), is_place((BIG, 1, -BIG))],
                         [True, False, False])
        self.assert_same([is_line((BIG, -BIG, 1)), is_line((BIG, -BIG, 2)), is_line((0, 0, BIG))],
                         [True, False, False])
        self.assert_same([is_direction((BIG, BIG + 1)), is_direction((-BIG, 5))], [True, False])
        self.assert_same([is_place((3 ** 60, 2 ** 90, 1)), is_direction((3 ** 60, 3 * 2 ** 90))], [True, False])

    def test_any_value(self):
        wholes = [(0, 0, 1), (0, 1, 0), (1, 2, 3), (-1, 0, 2), (1, 0), (3, -2)]
        things = ODD + [variant for thing in wholes for variant in variants(thing)]
        for thing in things:
            before = repr(thing)
            with self.subTest(thing=thing):
                self.assert_same(is_place(thing), place_by_the_words(thing))
                self.assert_same(is_line(thing), line_by_the_words(thing))
                self.assert_same(is_direction(thing), direction_by_the_words(thing))
            self.assertEqual(repr(thing), before)

    def test_bools_are_no_integers(self):
        for thing in [(True, 0, 1), (0, False, 1), (0, 0, True), (1, 1, True), (True, True, True)]:
            self.assert_same(is_place(thing), False)
        for thing in [(True, 0, 1), (1, False, 1), (1, 0, True), (1, 0, False)]:
            self.assert_same(is_line(thing), False)
        for thing in [(True, 0), (1, False), (0, True), (True, True)]:
            self.assert_same(is_direction(thing), False)

    def test_lists_strings_and_dicts(self):
        for thing in [[0, 0, 1], "001", ["0", "0", "1"], {0: 0, 1: 0, 2: 1}, ([0], [0], [1]), ((0, 0, 1),), None]:
            self.assert_same([is_place(thing), is_line(thing), is_direction(thing)], [False, False, False])
        for thing in [[0, 1], "01", {0: 1, 1: 0}, ((0, 1),), ("0", "1")]:
            self.assert_same([is_place(thing), is_line(thing), is_direction(thing)], [False, False, False])


class Place(PromiseCase):
    def test_all_small_fractions(self):
        for x, y, w in product(range(-6, 7), repeat=3):
            if w == 0:
                self.assert_error(BadPlace, (x, y, w), place, x, y, w)
                continue
            got = place(x, y, w)
            self.assertTrue(place_by_the_words(got), got)
            self.assertEqual(point(got), (Fraction(x, w), Fraction(y, w)))

    def test_edges(self):
        self.assert_same(place(0, 0, 1), (0, 0, 1))
        self.assert_same(place(0, 0, -7), (0, 0, 1))
        self.assert_same(place(0, 4, 6), (0, 2, 3))
        self.assert_same(place(6, 10, 15), (6, 10, 15))
        self.assert_same(place(6, 10, -15), (-6, -10, 15))
        self.assert_same(place(-6, 12, -18), (1, -2, 3))
        self.assert_same(place(5, -5, 5), (1, -1, 1))

    def test_long_integers(self):
        self.assert_same(place(6 * BIG, -9 * BIG, -3 * BIG), (-2, 3, 1))
        self.assert_same(place(BIG + 1, BIG, BIG), (BIG + 1, BIG, BIG))
        self.assert_same(place(10 ** 40 + 2, 2, -4), (-(5 * 10 ** 39 + 1), -1, 2))

    def test_values_that_are_no_integers(self):
        for value in ODD:
            if type(value) is int:
                continue
            self.assert_error(BadPlace, (value, 0, 1), place, value, 0, 1)
            self.assert_error(BadPlace, (0, value, 1), place, 0, value, 1)
            self.assert_error(BadPlace, (0, 0, value), place, 0, 0, value)
            self.assert_error(BadPlace, (value, value, value), place, value, value, value)
            self.assert_error(BadPlace, (value, 1, 0), place, value, 1, 0)

    def test_the_error_tells_the_values_as_they_were_passed(self):
        self.assert_error(BadPlace, (4, 6, 0), place, 4, 6, 0)
        self.assert_error(BadPlace, (0, 0, 0), place, 0, 0, 0)
        self.assert_error(BadPlace, (2, True, -4), place, 2, True, -4)
        self.assert_error(BadPlace, (2, 4, False), place, w=False, y=4, x=2)


class Through(PromiseCase):
    def test_all_small_pairs(self):
        for p, q in product(PLACES, repeat=2):
            if p == q:
                continue
            line = through(p, q)
            (x, y), (u, v) = point(p), point(q)
            self.assertTrue(line_by_the_words(line), line)
            self.assertEqual((worth(line, x, y), worth(line, u, v)), (0, 0))
            # A quarter turn counterclockwise from p to q leads to the left.
            self.assertGreater(worth(line, x - (v - y), y + (u - x)), 0)

    def test_the_other_way_round_is_reversed(self):
        for p, q in product(PLACES[::5], repeat=2):
            if p != q:
                a, b, c = through(p, q)
                self.assert_same(through(q, p), (-a, -b, -c))

    def test_worths_above_one(self):
        self.assert_same(through((1, 0, 2), (0, 1, 2)), (-2, -2, 1))
        self.assert_same(through((1, 1, 2), (2, 2, 3)), (-1, 1, 0))
        self.assert_same(through((0, 0, 1), (1, 2, 3)), (-2, 1, 0))

    def test_long_integers(self):
        self.assert_same(through((BIG, 0, 1), (BIG, 1, BIG)), (-1, BIG - BIG * BIG, BIG))
        self.assert_same(through((BIG, BIG, 1), (BIG + 1, BIG, 1)), (0, 1, -BIG))
        self.assert_same(through((0, 0, 1), (BIG, BIG + 1, 1)), (-BIG - 1, BIG, 0))
        self.assert_same(through((1, BIG, 1), (2, 2 * BIG + 1, 1)), (-BIG - 1, 1, 1))

    def test_equal_places(self):
        for p in [(0, 0, 1), (1, -2, 3), (BIG, 1, BIG)]:
            self.assert_error(BadPlace, (p, p), through, p, p)
            self.assert_error(BadPlace, (p, p), through, q=p, p=p)

    def test_arguments_that_are_no_places(self):
        for thing in NO_PLACES:
            self.assert_error(BadPlace, thing, through, thing, (0, 0, 1))
            self.assert_error(BadPlace, thing, through, (0, 0, 1), thing)
            self.assert_error(BadPlace, thing, through, thing, thing)

    def test_the_first_wrong_one_counts(self):
        for one, other in product(NO_PLACES[::3], NO_PLACES[::4]):
            self.assert_error(BadPlace, one, through, one, other)
        self.assert_error(BadPlace, (2, 2, 2), through, p=(2, 2, 2), q=(2, 2, 4))
        self.assert_error(BadPlace, [0, 0, 1], through, [0, 0, 1], (0, 0, 1))
        self.assert_error(BadPlace, (0, 0, True), through, (0, 0, 1), (0, 0, True))


class Side(PromiseCase):
    def test_all_small_lines_and_places(self):
        for line, p in product(LINES, PLACES[::3]):
            here = worth(line, *point(p))
            self.assert_same(side(line, p), 1 if here > 0 else -1 if here < 0 else 0)

    def test_reversed_line(self):
        for (a, b, c), p in product(LINES[::4], PLACES[::7]):
            self.assert_same(side((-a, -b, -c), p), -side((a, b, c), p))

    def test_long_integers(self):
        line = (BIG + 1, -BIG, 0)
        self.assert_same(
            [side(line, (BIG, BIG + 1, 1)), side(line, (BIG - 1, BIG, 1)), side(line, (BIG, BIG + 1, BIG))],
            [0, -1, 0],
        )
        self.assert_same(side((BIG + 1, -BIG, 1), (BIG, BIG + 1, BIG)), 1)
        self.assert_same(side((10 ** 30 + 1, -10 ** 30, 0), (10 ** 30 + 1, 10 ** 30 + 2, 1)), 1)

    def test_a_wrong_line(self):
        for thing in NO_LINES:
            self.assert_error(BadLine, thing, side, thing, (0, 0, 1))

    def test_a_wrong_place(self):
        for thing in NO_PLACES:
            self.assert_error(BadPlace, thing, side, (0, 1, 0), thing)

    def test_the_line_counts_first(self):
        for line, p in product(NO_LINES[::3], NO_PLACES[::4]):
            self.assert_error(BadLine, line, side, line, p)
        self.assert_error(BadLine, (0, 0, 1), side, (0, 0, 1), (0, 1, 0))
        self.assert_error(BadLine, (0, 2, 4), side, p=None, line=(0, 2, 4))


class Meeting(PromiseCase):
    def test_all_small_pairs(self):
        for one, other in product(LINES, repeat=2):
            p = meeting(one, other)
            if one[0] * other[1] == one[1] * other[0]:
                self.assert_same(p, None)
                continue
            self.assertTrue(place_by_the_words(p), p)
            self.assertEqual((worth(one, *point(p)), worth(other, *point(p))), (0, 0))

    def test_same_reversed_and_parallel_lines(self):
        line = (2, -3, 5)
        for other in [line, (-2, 3, -5), (2, -3, 4), (-2, 3, 0), (4, -6, 1)]:
            self.assert_same(meeting(line, other), None)

    def test_crossings_with_w_above_one(self):
        self.assert_same(meeting((2, 0, -1), (0, 3, -1)), (3, 2, 6))
        self.assert_same(meeting((0, 3, -1), (2, 0, -1)), (3, 2, 6))
        self.assert_same(meeting((-2, 0, 1), (0, 3, -1)), (3, 2, 6))
        self.assert_same(meeting((2, 4, -1), (4, -2, 1)), (-1, 3, 10))

    def test_long_integers(self):
        self.assert_same(meeting((BIG, 1, 0), (BIG + 1, 1, -1)), (1, -BIG, 1))
        self.assert_same(meeting((BIG + 1, -BIG, 0), (BIG, 1 - BIG, 0)), (0, 0, 1))
        self.assert_same(meeting((BIG, -1, 0), (BIG, -1, 1)), None)

    def test_arguments_that_are_no_lines(self):
        for thing in NO_LINES:
            self.assert_error(BadLine, thing, meeting, thing, (0, 1, 0))
            self.assert_error(BadLine, thing, meeting, (0, 1, 0), thing)
            self.assert_error(BadLine, thing, meeting, thing, thing)

    def test_the_first_wrong_one_counts(self):
        for one, other in product(NO_LINES[::3], NO_LINES[::4]):
            self.assert_error(BadLine, one, meeting, one, other)
        self.assert_error(BadLine, (0, 0, 1), meeting, other=(0, 0, 0), one=(0, 0, 1))
        self.assert_error(BadLine, (0, 2, 4), meeting, (0, 1, 2), (0, 2, 4))


if __name__ == "__main__":
    unittest.main()
