"""Section 7, section 2 for it, and the interface of coupledyard/pins.py."""

import copy
import itertools
import unittest

from coupledyard.errors import Conflicting, InvalidPins, InvalidWagon, InvalidYard
from coupledyard.pins import (
    conflict_of, forced, greatest_completion, is_completion, is_conflict, least_completion,
    validate_pins,
)
from coupledyard.yards import are_connected, span
from tests.helpers import (
    BIG, EMPTY_YARDS, FOREST, MOST, NO_ARRANGEMENTS, NO_PINS, OTHER_KINDS, SMALL_YARDS, Y,
    YardTestCase, all_arrangements, completions,
)

PLAIN_FUNCTIONS = (validate_pins, conflict_of, least_completion, greatest_completion)


def all_pins(yard, places):
    """Pins on any wagons, with places from the given ones."""
    choices = [[None, *places] for _ in yard[0]]
    for chosen in itertools.product(*choices):
        yield tuple((wagon, place) for wagon, place in enumerate(chosen) if place is not None)


def bounds(yard, pins, side):
    """All lower bounds (side 0) or upper bounds (side 1) with their values, as 7.3 tells it."""
    found = {("wall", wagon): walls[side] for wagon, walls in enumerate(yard[0])}
    found.update({("pin", wagon): place for wagon, place in pins})
    return found


def plain_forced(yard, pins, wagon):
    lowers = [
        value + span(yard, other, wagon)[0] for (_, other), value in bounds(yard, pins, 0).items()
        if are_connected(yard, other, wagon)
    ]
    uppers = [
        value + span(yard, other, wagon)[1] for (_, other), value in bounds(yard, pins, 1).items()
        if are_connected(yard, other, wagon)
    ]
    return (max(lowers), min(uppers))


def plain_conflicts(yard, pins):
    """All conflicts, word by word as 7.4 tells it."""
    lowers = bounds(yard, pins, 0)
    uppers = bounds(yard, pins, 1)
    return [
        (lower, upper) for lower, upper in itertools.product(lowers, uppers)
        if are_connected(yard, lower[1], upper[1])
        and lowers[lower] + span(yard, lower[1], upper[1])[0] > uppers[upper]
    ]


class ValidatePinsTest(YardTestCase):
    def test_pins(self):
        for pins in (
            (), ((0, 0),), ((2, 5),), ((0, 1), (1, 2), (2, 3)), ((0, 9), (2, 0)),
            ((0, MOST), (1, -MOST)), ((1, 10),), ((1, -1),),
        ):
            self.assertIsNone(validate_pins(Y, pins))
        self.assertIsNone(validate_pins((((0, 0),) * 40, ()), tuple((i, i) for i in range(40))))
        self.assertIsNone(validate_pins(pins=(), yard=Y))

    def test_values_that_are_no_tuples(self):
        values = [value for value in OTHER_KINDS if not isinstance(value, tuple)]
        for function in PLAIN_FUNCTIONS:
            for value in values + [[(0, 1)], {0: 1}, {(0, 1): 2}, "01", 3, BIG]:
                with self.subTest(value=str(value)[:60]):
                    self.assert_error(InvalidPins(None), function, Y, value)

    def test_items_that_are_no_pins(self):
        for function in PLAIN_FUNCTIONS:
            for value in NO_PINS:
                with self.subTest(value=str(value)[:60]):
                    self.assert_error(InvalidPins(0), function, Y, (value,))
                    self.assert_error(InvalidPins(1), function, Y, ((0, 1), value, None))
                    self.assert_error(InvalidPins(2), function, Y, ((0, 99), (1, 0), value))

    def test_a_pin_is_no_tuple_of_pins(self):
        self.assert_error(InvalidPins(0), validate_pins, Y, (0, 1))

    def test_wagons_must_ascend(self):
        for pins, index in (
            (((0, 1), (0, 1)), 1), (((1, 2), (0, 1)), 1), (((0, 1), (2, 3), (1, 2)), 2),
            (((0, 1), (2, 3), (2, 3), None), 2), (((2, 3), (3, 4)), 1), (((0, 0),) * 1000, 1),
        ):
            self.assert_error(InvalidPins(index), validate_pins, Y, pins)

    def test_wagons_of_the_yard(self):
        self.assert_error(InvalidPins(0), validate_pins, (((0, 1),), ()), ((1, 0),))
        yard = (((0, 0),) * 40, ())
        self.assertIsNone(validate_pins(yard, ((39, 0),)))
        self.assert_error(InvalidPins(0), validate_pins, yard, ((40, 0),))

    def test_yard_comes_first(self):
        for function in PLAIN_FUNCTIONS:
            self.assert_yard_errors(function, [None])
        for function in (is_conflict, is_completion, forced):
            self.assert_yard_errors(function, [None, None])

    def test_pins_come_before_the_rest(self):
        for pins, index in ((None, None), ((None,), 0), (((0, 1), (0, 1)), 1)):
            for function in (is_conflict, is_completion, forced):
                self.assert_error(InvalidPins(index), function, Y, pins, None)
        for value in NO_PINS:
            for function in (is_conflict, is_completion, forced):
                self.assert_error(InvalidPins(0), function, Y, (value,), (0, 1, 2))

    def test_form_comes_before_conflicts(self):
        pins = ((0, 99), (1, -99), (3, 0))
        for function in (least_completion, greatest_completion, conflict_of):
            self.assert_error(InvalidPins(2), function, Y, pins)


class ForcedTest(YardTestCase):
    def test_example(self):
        self.assertEqual(forced(Y, ((0, 3),), 2), (5, 7))

    def test_walls_alone(self):
        self.assertEqual([forced(Y, (), wagon) for wagon in range(3)], [(0, 7), (1, 8), (2, 9)])
        self.assertEqual(forced((((-2, 2),), ()), (), 0), (-2, 2))

    def test_pins_of_other_groups(self):
        self.assertEqual(forced(FOREST, ((0, 20), (3, 9)), 5), (0, 50))
        self.assertEqual(forced(FOREST, ((0, 20), (3, 9)), 4), (19, 33))
        self.assertEqual(forced(FOREST, ((0, 20), (3, 9)), 1), (4, 16))

    def test_first_item_greater_than_second_one(self):
        self.assertEqual(forced(Y, ((0, 0), (2, 5)), 1), (3, 2))
        self.assertEqual(forced(Y, ((0, 8),), 2), (10, 9))
        self.assertEqual(forced(Y, ((0, 12),), 0), (12, 7))
        self.assertEqual(forced(Y, ((0, -5),), 0), (0, -5))
        self.assertEqual(forced(EMPTY_YARDS[0], (), 0), (0, -1))
        self.assertEqual(forced(EMPTY_YARDS[0], (), 1), (4, 3))

    def test_pins_on_every_wagon(self):
        pins = ((0, 1), (1, 2), (2, 4))
        self.assertEqual([forced(Y, pins, wagon) for wagon in range(3)], [(1, 1), (2, 2), (4, 4)])

    def test_far_spans(self):
        yard = (((-MOST, MOST),) * 3, ((0, 1, -10 ** 10, 10 ** 10), (1, 2, 10 ** 10 - 1, 10 ** 10)))
        self.assertEqual(forced(yard, (), 2), (10 ** 10 - 1 - MOST, MOST))
        self.assertEqual(forced(yard, ((2, MOST),), 1), (-MOST, MOST - 10 ** 10 + 1))

    def test_all_small_pins(self):
        for yard in SMALL_YARDS[:5] + EMPTY_YARDS:
            for pins in all_pins(yard, (-1, 1, 3)):
                for wagon in range(len(yard[0])):
                    self.assertEqual(forced(yard, pins, wagon), plain_forced(yard, pins, wagon))

    def test_wagon_errors(self):
        for value in OTHER_KINDS + [-1, 3, BIG, -BIG, "0", (0,), [0]]:
            self.assert_error(InvalidWagon(value), forced, Y, (), value)
        self.assert_error(InvalidWagon(3), forced, Y, ((0, 99),), 3)

    def test_parameters_by_name(self):
        result = forced(wagon=2, pins=((0, 3),), yard=Y)
        self.assertEqual(result, (5, 7))
        self.assertIs(type(result), tuple)


class ConflictTest(YardTestCase):
    def test_example(self):
        self.assertEqual(conflict_of(Y, ((0, 0), (2, 5))), (("pin", 2), ("pin", 0)))
        self.assertEqual(conflict_of(Y, ((0, 8),)), (("pin", 0), ("wall", 2)))
        self.assertIsNone(conflict_of(Y, ()))

    def test_pins_beyond_the_walls(self):
        one = (((0, 9),), ())
        self.assertIsNone(conflict_of(one, ((0, 0),)))
        self.assertIsNone(conflict_of(one, ((0, 9),)))
        self.assertEqual(conflict_of(one, ((0, 10),)), (("pin", 0), ("wall", 0)))
        self.assertEqual(conflict_of(one, ((0, -1),)), (("wall", 0), ("pin", 0)))
        self.assertEqual(conflict_of(Y, ((2, MOST),)), (("pin", 2), ("wall", 0)))
        self.assertEqual(conflict_of(Y, ((2, -MOST),)), (("wall", 0), ("pin", 2)))

    def test_pins_just_as_far_as_the_spans_allow(self):
        self.assertIsNone(conflict_of(Y, ((0, 1), (2, 5))))
        self.assertIsNone(conflict_of(Y, ((0, 1), (2, 3))))
        self.assertEqual(conflict_of(Y, ((0, 1), (2, 6))), (("pin", 2), ("pin", 0)))
        self.assertEqual(conflict_of(Y, ((0, 1), (2, 2))), (("pin", 0), ("pin", 2)))

    def test_the_smallest_of_several(self):
        # Pins come before walls, first in the lower bound and then in the upper one.
        pins = ((0, 20), (1, 20), (2, 20))
        self.assertEqual(conflict_of(Y, pins), (("pin", 0), ("pin", 1)))
        pins = ((0, 20), (1, 50))
        self.assertEqual(conflict_of(Y, pins), (("pin", 0), ("wall", 0)))
        pins = ((1, 50), (2, 50))
        self.assertEqual(conflict_of(Y, pins), (("pin", 1), ("pin", 2)))
        self.assertEqual(conflict_of(Y, ((1, 11),)), (("pin", 1), ("wall", 1)))
        self.assertEqual(conflict_of(Y, ((1, 12),)), (("pin", 1), ("wall", 0)))
        self.assertEqual(conflict_of(Y, ((0, -9), (1, -9))), (("pin", 0), ("pin", 1)))
        self.assertEqual(conflict_of(EMPTY_YARDS[1], ()), (("wall", 0), ("wall", 1)))

    def test_other_groups_do_not_contradict(self):
        yard = (((0, 3), (0, 3), (0, 9)), ((0, 1, 0, 1),))
        self.assertIsNone(conflict_of(yard, ((0, 0), (2, 9))))
        self.assertIs(is_conflict(yard, ((0, 0), (2, 9)), (("pin", 2), ("pin", 0))), False)

    def test_yards_without_arrangements(self):
        for yard in EMPTY_YARDS:
            self.assertEqual(all_arrangements(yard), [])
            self.assertEqual(conflict_of(yard, ()), min(plain_conflicts(yard, ())))

    def test_all_small_pins(self):
        for yard in SMALL_YARDS + EMPTY_YARDS:
            for pins in all_pins(yard, (-1, 2) if len(yard[0]) > 3 else (-1, 1, 4)):
                conflicts = plain_conflicts(yard, pins)
                self.assertEqual(conflict_of(yard, pins), min(conflicts, default=None))
                self.assertEqual(conflicts == [], completions(yard, pins) != [])

    def test_is_conflict_for_all_pairs_of_bounds(self):
        for yard, pins in (
            (Y, ((0, 0), (2, 5))), (Y, ((0, 8),)), (Y, ()), (Y, ((1, 12),)), (EMPTY_YARDS[2], ((1, 3),)),
            (FOREST, ((0, 60), (3, -2), (5, 51))),
        ):
            conflicts = plain_conflicts(yard, pins)
            every = [(word, wagon) for word in ("pin", "wall") for wagon in range(-1, 7)]
            for pair in itertools.product(every, repeat=2):
                self.assertIs(is_conflict(yard, pins, pair), pair in conflicts)

    def test_is_conflict_for_values_of_every_kind(self):
        lower, upper = conflict = (("pin", 1), ("wall", 1))
        pins = ((1, 30),)
        self.assertIs(is_conflict(Y, pins, conflict), True)
        values = OTHER_KINDS + [
            (), (lower,), (lower, upper, upper), [lower, upper], (upper, lower), {0: lower, 1: upper},
            "pw", 3, BIG, (lower, lower),
        ]
        wrong = OTHER_KINDS + [
            list(upper), ("wall",), ("wall", 1, 1), ("wall", True), ("wall", [1]), ("wall", "1"),
            ("wall", (1,)), ("wall", None), ("wall", 3), ("wall", -1), ("wall", BIG), ("Wall", 1),
            ("", 1), (b"wall", 1), (["wall"], 1), (("wall",), 1), (None, 1), (1, "wall"), (True, 1),
            ({}, 1), "wall", "w1",
        ]
        values += [(lower, value) for value in wrong] + [(value, upper) for value in wrong]
        for value in values:
            with self.subTest(value=str(value)[:60]):
                self.assertIs(is_conflict(Y, pins, value), False)

    def test_kinds_of_values_and_names(self):
        conflict = conflict_of(pins=((0, 8),), yard=Y)
        self.assertEqual([type(conflict), type(conflict[0]), type(conflict[1])], [tuple] * 3)
        self.assertEqual([type(item) for item in conflict[0]], [str, int])
        self.assertIs(is_conflict(value=conflict, pins=((0, 8),), yard=Y), True)


class CompletionTest(YardTestCase):
    def test_example(self):
        self.assertEqual(least_completion(Y, ((1, 5),)), (3, 5, 6))
        self.assertEqual(greatest_completion(Y, ((1, 5),)), (4, 5, 7))
        self.assertEqual(least_completion(Y, ()), (0, 1, 2))

    def test_no_pins(self):
        self.assertEqual(greatest_completion(Y, ()), (7, 8, 9))
        self.assertEqual(least_completion((((-2, 2),), ()), ()), (-2,))
        self.assertEqual(greatest_completion((((-2, 2),), ()), ()), (2,))

    def test_pins_on_every_wagon(self):
        pins = ((0, 1), (1, 2), (2, 4))
        self.assertEqual(least_completion(Y, pins), (1, 2, 4))
        self.assertEqual(greatest_completion(Y, pins), (1, 2, 4))

    def test_some_wagons_of_some_groups(self):
        pins = ((2, 20), (3, 9))
        self.assertEqual(least_completion(FOREST, pins), (17, 4, 20, 9, 18, 0))
        self.assertEqual(greatest_completion(FOREST, pins), (19, 16, 20, 9, 30, 50))

    def test_all_small_pins(self):
        for yard in SMALL_YARDS + EMPTY_YARDS:
            for pins in all_pins(yard, (-1, 2) if len(yard[0]) > 3 else (-1, 1, 4)):
                found = completions(yard, pins)
                if found:
                    least = tuple(min(places) for places in zip(*found))
                    greatest = tuple(max(places) for places in zip(*found))
                    self.assertEqual(least_completion(yard, pins), least)
                    self.assertEqual(greatest_completion(yard, pins), greatest)
                    self.assertIs(is_completion(yard, pins, least), True)
                    self.assertIs(is_completion(yard, pins, greatest), True)
                else:
                    error = Conflicting(min(plain_conflicts(yard, pins)))
                    self.assert_error(error, least_completion, yard, pins)
                    self.assert_error(error, greatest_completion, yard, pins)

    def test_forty_wagons(self):
        yard = (((-MOST, MOST),) * 40, tuple((i, i + 1, 1, 3) for i in range(39)))
        self.assertEqual(least_completion(yard, ()), tuple(range(-MOST, 40 - MOST)))
        self.assertEqual(greatest_completion(yard, ()), tuple(range(MOST - 39, MOST + 1)))
        self.assertEqual(
            least_completion(yard, ((20, 0),)),
            tuple(range(-60, 0, 3)) + tuple(range(20)))
        self.assertEqual(
            greatest_completion(yard, ((20, 0),)),
            tuple(range(-20, 0)) + tuple(range(0, 60, 3)))
        pins = ((0, 0), (39, 118))
        error = Conflicting((("pin", 39), ("pin", 0)))
        self.assert_error(error, least_completion, yard, pins)
        self.assert_error(error, greatest_completion, yard, pins)

    def test_conflicts(self):
        for function in (least_completion, greatest_completion):
            self.assert_error(Conflicting((("pin", 0), ("wall", 2))), function, Y, ((0, 8),))
            self.assert_error(
                Conflicting((("pin", 2), ("pin", 0))), function, Y, ((0, 0), (2, 5)))
            self.assert_error(
                Conflicting((("wall", 0), ("wall", 1))), function, EMPTY_YARDS[0], ())

    def test_results_and_names(self):
        for function in (least_completion, greatest_completion):
            result = function(pins=((0, 1), (1, 2), (2, 3)), yard=Y)
            self.assertEqual(result, (1, 2, 3))
            self.assertIs(type(result), tuple)


class IsCompletionTest(YardTestCase):
    def test_completions(self):
        for value, expected in (
            ((3, 5, 6), True), ((4, 5, 7), True), ((4, 5, 6), True), ((3, 4, 5), False),
            ((5, 6, 7), False), ((2, 5, 6), False), ((4, 5, 8), False),
        ):
            self.assertIs(is_completion(Y, ((1, 5),), value), expected)
        self.assertIs(is_completion(value=(0, 1, 2), pins=(), yard=Y), True)

    def test_every_arrangement(self):
        for yard in SMALL_YARDS[:5]:
            for pins in all_pins(yard, (1, 4)):
                found = completions(yard, pins)
                for places in all_arrangements(yard):
                    self.assertIs(is_completion(yard, pins, places), places in found)

    def test_values_of_every_kind(self):
        for value, _, _ in NO_ARRANGEMENTS:
            for pins in ((), ((1, 1),), ((0, 8), (1, 0))):
                self.assertIs(is_completion(Y, pins, value), False)

    def test_pins_that_have_no_completion(self):
        self.assertIs(is_completion(Y, ((0, 10),), (10, 11, 12)), False)
        self.assertIs(is_completion(Y, ((0, 0), (2, 5)), (0, 2, 5)), False)
        self.assertIs(is_completion(EMPTY_YARDS[0], (), (0, 3)), False)


class ArgumentsTest(YardTestCase):
    def test_arguments_are_not_modified(self):
        for value in ([(0, 1)], ((0, 1), [1, 2]), {0: [1]}):
            before = copy.deepcopy(value)
            with self.assertRaises(InvalidPins):
                least_completion(Y, value)
            with self.assertRaises(InvalidYard):
                validate_pins(value, ())
            self.assertIs(is_completion(Y, (), value), False)
            self.assertIs(is_conflict(Y, (), value), False)
            self.assertEqual(value, before)

    def test_equal_calls_have_equal_results(self):
        for _ in range(2):
            self.assertEqual(least_completion(Y, ((1, 5),)), (3, 5, 6))
            self.assertEqual(conflict_of(Y, ((0, 8),)), (("pin", 0), ("wall", 2)))


if __name__ == "__main__":
    unittest.main()
