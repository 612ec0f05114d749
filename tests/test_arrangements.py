"""Section 4, section 2 for it, and the interface of coupledyard/arrangements.py."""

import copy
import itertools
import unittest

from coupledyard.arrangements import (
    distance, is_arrangement, maximum, minimum, shifted, stretch, validate_arrangement,
)
from coupledyard.errors import InvalidArrangement, InvalidYard
from tests.helpers import BIG, FOREST, MOST, OTHER_KINDS, Y, YardTestCase, all_arrangements

WIDE = (((-MOST, MOST), (-MOST, MOST)), ((0, 1, -10 ** 10, 10 ** 10),))
FREE = (((0, 9), (-3, 3)), ())
NO_YARD = (((0, 9), (9, 0)), ())


class ValidateArrangementTest(YardTestCase):
    def assert_arrangement(self, yard, value):
        self.assertIsNone(validate_arrangement(yard, value))
        self.assertIs(is_arrangement(yard, value), True)

    def assert_no_arrangement(self, yard, value, part, index):
        self.assert_error(InvalidArrangement(part, index), validate_arrangement, yard, value)
        self.assertIs(is_arrangement(yard, value), False)

    def test_example(self):
        self.assert_no_arrangement(Y, (0, 1, 4), "couplings", 1)

    def test_arrangements(self):
        for value in ((0, 1, 2), (0, 2, 4), (5, 7, 8), (7, 8, 9)):
            self.assert_arrangement(Y, value)
        self.assert_arrangement(WIDE, (-MOST, MOST))
        self.assert_arrangement((((4, 4),), ()), (4,))
        self.assert_arrangement((((0, 0),) * 40, ()), (0,) * 40)

    def test_form(self):
        wrong = [0, (), (0, 1), (0, 1, 2, 3), [0, 1, 2], {0: 0, 1: 1, 2: 2}, "012", BIG, (0,) * 400000]
        for value in OTHER_KINDS + wrong:
            with self.subTest(value=str(value)[:50]):
                self.assert_no_arrangement(Y, value, "form", None)

    def test_places_of_other_kinds(self):
        for place in OTHER_KINDS + [BIG, -BIG, "1", (1,)]:
            with self.subTest(place=place):
                self.assert_no_arrangement(Y, (place, 1, 2), "places", 0)
                self.assert_no_arrangement(Y, (0, place, 2), "places", 1)
                self.assert_no_arrangement(Y, (0, 1, place), "places", 2)

    def test_places_at_the_walls(self):
        for places in ((0, -3), (9, 3), (0, 3), (9, -3)):
            self.assert_arrangement(FREE, places)
        for places, wagon in (((-1, 0), 0), ((10, 0), 0), ((0, -4), 1), ((0, 4), 1), ((-1, 4), 0)):
            self.assert_no_arrangement(FREE, places, "places", wagon)
        self.assert_no_arrangement(WIDE, (-MOST - 1, 0), "places", 0)
        self.assert_no_arrangement(WIDE, (0, MOST + 1), "places", 1)

    def test_places_at_the_bounds(self):
        yard = (((0, 20), (0, 20)), ((0, 1, -4, 6),))
        for places in ((10, 6), (10, 16), (10, 7), (10, 15)):
            self.assert_arrangement(yard, places)
        for places in ((10, 5), (10, 17)):
            self.assert_no_arrangement(yard, places, "couplings", 0)

    def test_smallest_index_of_a_coupling(self):
        self.assert_no_arrangement(Y, (0, 0, 0), "couplings", 0)
        self.assert_no_arrangement(Y, (0, 1, 1), "couplings", 1)
        self.assert_no_arrangement(FOREST, (0, 0, 1, 6, 50), "form", None)
        self.assert_no_arrangement(FOREST, (0, 0, 1, 6, 50, 0), "couplings", 1)
        self.assert_no_arrangement(FOREST, (0, 0, 1, 5, 12, 0), "couplings", 2)

    def test_places_come_before_couplings(self):
        self.assert_no_arrangement(Y, (0, 9, 10), "places", 2)
        self.assert_no_arrangement(Y, (9, 0, True), "places", 2)

    def test_yard_comes_first(self):
        for function in (validate_arrangement, is_arrangement):
            self.assert_error(InvalidYard("form", None), function, None, None)
            self.assert_error(InvalidYard("walls", 1), function, NO_YARD, ())
            self.assert_error(InvalidYard("couplings", 0), function, (Y[0], (None,)), (0, 1, 2))
            for value in OTHER_KINDS:
                self.assert_error(InvalidYard("form", None), function, value, (0, 1, 2))

    def test_parameters_by_name(self):
        self.assertIsNone(validate_arrangement(arrangement=(0, 1, 2), yard=Y))
        self.assertIs(is_arrangement(value=(0, 1, 2), yard=Y), True)


class MinimumAndMaximumTest(YardTestCase):
    def test_example(self):
        self.assertEqual(minimum(Y, (0, 1, 3), (1, 2, 3)), (0, 1, 3))
        self.assertEqual(maximum(Y, (0, 2, 3), (1, 2, 3)), (1, 2, 3))

    def test_several_arrangements(self):
        given = ((2, 3, 4), (1, 3, 5), (2, 4, 5), (1, 2, 4))
        self.assertEqual(minimum(Y, *given), (1, 2, 4))
        self.assertEqual(maximum(Y, *given), (2, 4, 5))

    def test_one_arrangement(self):
        for function in (minimum, maximum):
            self.assertEqual(function(Y, (0, 2, 3)), (0, 2, 3))
            self.assertEqual(function((((4, 4),), ()), (4,)), (4,))

    def test_all_pairs(self):
        found = all_arrangements(Y)
        self.assertEqual(len(found), 28)
        for a, b in itertools.product(found, repeat=2):
            least = minimum(Y, a, b)
            greatest = maximum(Y, a, b)
            self.assertEqual(least, tuple(min(pair) for pair in zip(a, b)))
            self.assertEqual(greatest, tuple(max(pair) for pair in zip(a, b)))
            self.assertIn(least, found)
            self.assertIn(greatest, found)

    def test_first_argument_that_is_no_arrangement(self):
        for function in (minimum, maximum):
            self.assert_error(
                InvalidArrangement("couplings", 1), function, Y, (0, 1, 2), (0, 1, 4), None)
            self.assert_error(
                InvalidArrangement("form", None), function, Y, (0, 1, 2), None, (0, 1, 4))
            self.assert_error(InvalidArrangement("places", 1), function, Y, (0, None, 2), None)
            for value in OTHER_KINDS:
                self.assert_error(InvalidArrangement("form", None), function, Y, value)
                self.assert_error(InvalidArrangement("form", None), function, Y, (0, 1, 2), value)

    def test_yard_comes_first(self):
        for function in (minimum, maximum):
            self.assert_error(InvalidYard("walls", 1), function, NO_YARD, None)
            self.assert_error(InvalidYard("form", None), function, [], None)


class DistanceAndStretchTest(YardTestCase):
    def test_example(self):
        self.assertEqual(distance(Y, (0, 1, 2), (3, 4, 6)), 10)
        self.assertEqual(stretch(Y, (0, 1, 2), (3, 4, 6)), 4)

    def test_both_directions(self):
        self.assertEqual(distance(FREE, (0, 3), (9, -3)), 15)
        self.assertEqual(stretch(FREE, (0, 3), (9, -3)), 9)
        self.assertEqual(distance(FREE, (9, -3), (0, 3)), 15)
        self.assertEqual(stretch(FREE, (9, -3), (0, 3)), 9)
        self.assertEqual(stretch(FREE, (5, 3), (4, -3)), 6)

    def test_the_same_arrangement(self):
        self.assertEqual(distance(Y, (0, 1, 2), (0, 1, 2)), 0)
        self.assertEqual(stretch(Y, (0, 1, 2), (0, 1, 2)), 0)

    def test_far_walls(self):
        self.assertEqual(distance(WIDE, (-MOST, MOST), (MOST, -MOST)), 4 * MOST)
        self.assertEqual(stretch(WIDE, (-MOST, MOST), (MOST, 0)), 2 * MOST)
        many = (((-MOST, MOST),) * 40, ())
        self.assertEqual(distance(many, (-MOST,) * 40, (MOST,) * 40), 80 * MOST)

    def test_errors_in_order(self):
        for function in (distance, stretch):
            self.assert_error(InvalidYard("form", None), function, None, None, None)
            self.assert_error(InvalidYard("walls", 1), function, NO_YARD, (0, 9), (0, 9))
            self.assert_error(InvalidArrangement("form", None), function, Y, [0, 1, 2], (0, 1, 4))
            self.assert_error(InvalidArrangement("places", 0), function, Y, (-1, 1, 2), None)
            self.assert_error(InvalidArrangement("couplings", 1), function, Y, (0, 1, 2), (0, 1, 4))
            for value in OTHER_KINDS:
                self.assert_error(InvalidArrangement("form", None), function, Y, value, (0, 1, 2))
                self.assert_error(InvalidArrangement("form", None), function, Y, (0, 1, 2), value)

    def test_parameters_by_name(self):
        self.assertEqual(distance(goal=(1, 2, 3), start=(0, 1, 2), yard=Y), 3)
        self.assertEqual(stretch(goal=(1, 2, 3), start=(0, 1, 2), yard=Y), 1)


class ShiftedTest(YardTestCase):
    def test_shifts(self):
        self.assertEqual(shifted(Y, (1, 2, 4), 3), (4, 5, 7))
        self.assertEqual(shifted(Y, (1, 2, 4), -1), (0, 1, 3))
        self.assertEqual(shifted(Y, (1, 2, 4), 0), (1, 2, 4))
        self.assertEqual(shifted(by=1, arrangement=(0, 1, 2), yard=Y), (1, 2, 3))

    def test_just_fits_and_one_too_great(self):
        self.assertEqual(shifted(Y, (0, 1, 2), 7), (7, 8, 9))
        self.assert_error(InvalidArrangement("places", 2), shifted, Y, (0, 1, 2), 8)
        self.assertEqual(shifted(Y, (7, 8, 9), -7), (0, 1, 2))
        self.assert_error(InvalidArrangement("places", 0), shifted, Y, (7, 8, 9), -8)
        self.assertEqual(shifted(WIDE, (-MOST, -MOST), 2 * MOST), (MOST, MOST))
        self.assert_error(InvalidArrangement("places", 0), shifted, WIDE, (-MOST, -MOST), 2 * MOST + 1)

    def test_first_wagon_that_would_pass(self):
        self.assert_error(InvalidArrangement("places", 1), shifted, FREE, (0, 0), 4)
        self.assert_error(InvalidArrangement("places", 0), shifted, FREE, (9, 3), 1)
        self.assert_error(InvalidArrangement("places", 0), shifted, Y, (0, 1, 2), BIG)
        self.assert_error(InvalidArrangement("places", 0), shifted, Y, (0, 1, 2), -BIG)

    def test_every_shift(self):
        found = all_arrangements(Y)
        for places, by in itertools.product(found, range(-11, 12)):
            moved = tuple(place + by for place in places)
            if moved in found:
                self.assertEqual(shifted(Y, places, by), moved)
            else:
                wagon = [0 <= place <= 9 for place in moved].index(False)
                self.assert_error(InvalidArrangement("places", wagon), shifted, Y, places, by)

    def test_errors_in_order(self):
        self.assert_error(InvalidYard("form", None), shifted, None, None, 99)
        self.assert_error(InvalidArrangement("form", None), shifted, Y, None, 99)
        self.assert_error(InvalidArrangement("couplings", 1), shifted, Y, (0, 1, 4), 99)
        self.assert_error(InvalidArrangement("places", 2), shifted, Y, (0, 1, 10), -1)
        self.assert_error(InvalidArrangement("places", 1), shifted, Y, (0, True, 2), 1)
        for value in OTHER_KINDS:
            self.assert_error(InvalidArrangement("form", None), shifted, Y, value, 1)


class ArgumentsTest(YardTestCase):
    def test_arguments_are_not_modified(self):
        for value in ([0, 1, 2], (0, [1], 2), {0: [1]}):
            before = copy.deepcopy(value)
            self.assertIs(is_arrangement(Y, value), False)
            self.assertEqual(value, before)

    def test_results_are_plain_tuples(self):
        for result in (minimum(Y, (0, 1, 2)), maximum(Y, (0, 1, 2)), shifted(Y, (0, 1, 2), 1)):
            self.assertIs(type(result), tuple)

    def test_equal_calls_have_equal_results(self):
        for _ in range(2):
            self.assertEqual(distance(Y, (0, 1, 2), (3, 4, 6)), 10)
            self.assert_error(InvalidArrangement("form", None), minimum, Y, None)


if __name__ == "__main__":
    unittest.main()
