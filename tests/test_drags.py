"""Section 8, section 2 for it, and the interface of coupledyard/drags.py."""

import copy
import itertools
import unittest

from coupledyard.drags import drag_distance, dragged, dragged_all, pushed
from coupledyard.errors import (
    InvalidArrangement, InvalidDrag, InvalidPlace, InvalidStep, InvalidWagon, InvalidYard,
    OutOfReach,
)
from coupledyard.steps import is_possible, reason
from coupledyard.yards import are_connected, span
from tests.helpers import (
    CHAIN, FOREST, MOST, NO_PLACES, NO_STEPS, NO_WAGONS, OTHER_KINDS, SMALL_YARDS, STAR, Y,
    YardTestCase, all_arrangements, all_steps, drawn_tree,
)

# Values that are not tuples of two items.
NO_DRAGS = OTHER_KINDS + [[0, 1], (0,), (0, 1, 2), (), "01", 3, {0: 1, 1: 2}, {0, 1}]


def plain_drag(found, places, wagon, place):
    """The result word by word as 8.1 tells it, or None; `found` are all arrangements."""
    there = [other for other in found if other[wagon] == place]
    if not there:
        return None
    best = [min(abs(other[v] - old) for other in there) for v, old in enumerate(places)]
    best[wagon] = abs(place - places[wagon])
    results = [
        other for other in there if [abs(x - old) for x, old in zip(other, places)] == best
    ]
    # Nothing in 8.1 says so, but there is exactly one.
    assert len(results) == 1
    return results[0]


def plain_out_of_reach(yard, places, wagon, place):
    """All wagons that do not get to where they would have to go, as 8.2 tells it."""
    forwards = place >= places[wagon]
    wrong = []
    for v, (low, high) in enumerate(yard[0]):
        if are_connected(yard, wagon, v):
            least, greatest = span(yard, wagon, v)
            if (place + least > high) if forwards else (place + greatest < low):
                wrong.append(v)
    return wrong


class DraggedTest(YardTestCase):
    def test_example(self):
        self.assertEqual(dragged(Y, (0, 1, 2), 2, 5), (1, 3, 5))
        self.assertEqual(dragged(Y, (0, 1, 2), 0, 4), (4, 5, 6))
        self.assertEqual(dragged(Y, (5, 6, 7), 1, 3), (2, 3, 5))
        self.assert_error(OutOfReach(2), dragged, Y, (0, 1, 2), 0, 8)

    def test_to_the_old_place(self):
        for places in all_arrangements(Y):
            for wagon in range(3):
                self.assertEqual(dragged(Y, places, wagon, places[wagon]), places)

    def test_nobody_else_moves(self):
        self.assertEqual(dragged(Y, (0, 1, 3), 1, 2), (0, 2, 3))
        self.assertEqual(dragged(Y, (0, 2, 3), 1, 1), (0, 1, 3))
        self.assertEqual(dragged(Y, (3, 4, 6), 0, 2), (2, 4, 6))

    def test_others_are_pushed_and_pulled(self):
        self.assertEqual(dragged(Y, (3, 5, 7), 0, 4), (4, 5, 7))
        self.assertEqual(dragged(Y, (3, 5, 7), 0, 5), (5, 6, 7))
        self.assertEqual(dragged(Y, (3, 5, 7), 0, 6), (6, 7, 8))
        self.assertEqual(dragged(Y, (3, 5, 7), 0, 2), (2, 4, 6))
        self.assertEqual(dragged(Y, (3, 5, 7), 2, 8), (4, 6, 8))
        self.assertEqual(dragged(Y, (3, 5, 7), 2, 2), (0, 1, 2))

    def test_one_wagon(self):
        yard = (((-2, 2),), ())
        for old, new in itertools.product(range(-2, 3), repeat=2):
            self.assertEqual(dragged(yard, (old,), 0, new), (new,))
        self.assert_error(OutOfReach(0), dragged, yard, (0,), 0, 3)
        self.assert_error(OutOfReach(0), dragged, yard, (0,), 0, -3)

    def test_wagons_that_are_not_connected_stay(self):
        places = (10, 20, 12, 15, 15, 50)
        self.assertEqual(dragged(FOREST, places, 0, 40), (40, 20, 41, 15, 39, 50))
        self.assertEqual(dragged(FOREST, places, 1, 3), (3 + 7, 3, 12, 8, 15, 50))
        self.assertEqual(dragged(FOREST, places, 5, 0), (10, 20, 12, 15, 15, 0))

    def test_just_at_the_walls(self):
        self.assertEqual(dragged(Y, (0, 1, 2), 0, 7), (7, 8, 9))
        self.assertEqual(dragged(Y, (7, 8, 9), 2, 2), (0, 1, 2))
        self.assertEqual(dragged(Y, (0, 1, 2), 2, 9), (5, 7, 9))
        self.assertEqual(dragged(Y, (7, 8, 9), 0, 0), (0, 2, 4))

    def test_out_of_reach_by_one(self):
        self.assert_error(OutOfReach(2), dragged, Y, (0, 1, 2), 0, 8)
        self.assert_error(OutOfReach(2), dragged, Y, (0, 1, 2), 1, 9)
        self.assert_error(OutOfReach(2), dragged, Y, (0, 1, 2), 2, 10)
        self.assert_error(OutOfReach(0), dragged, Y, (7, 8, 9), 2, 1)
        self.assert_error(OutOfReach(0), dragged, Y, (7, 8, 9), 1, 0)
        self.assert_error(OutOfReach(0), dragged, Y, (7, 8, 9), 0, -1)

    def test_the_smallest_of_several_out_of_reach(self):
        self.assert_error(OutOfReach(1), dragged, Y, (0, 1, 2), 0, 9)
        self.assert_error(OutOfReach(0), dragged, Y, (0, 1, 2), 0, 10)
        self.assert_error(OutOfReach(1), dragged, Y, (0, 1, 2), 1, 10)
        self.assert_error(OutOfReach(0), dragged, Y, (0, 1, 2), 2, 14)
        self.assert_error(OutOfReach(1), dragged, Y, (0, 1, 2), 2, 12)
        self.assert_error(OutOfReach(0), dragged, Y, (5, 6, 7), 2, 0)
        self.assert_error(OutOfReach(0), dragged, Y, (5, 6, 7), 2, -1)
        self.assert_error(OutOfReach(1), dragged, FOREST, (10, 20, 12, 15, 15, 50), 3, -8)
        self.assert_error(OutOfReach(0), dragged, FOREST, (10, 20, 12, 15, 15, 50), 4, -20)
        self.assert_error(OutOfReach(1), dragged, FOREST, (10, 20, 12, 15, 15, 50), 3, 60)
        self.assert_error(OutOfReach(3), dragged, FOREST, (10, 20, 12, 15, 15, 50), 3, 51)

    def test_every_drag(self):
        for yard in SMALL_YARDS:
            found = all_arrangements(yard)
            for places in found:
                for wagon, (low, high) in enumerate(yard[0]):
                    for place in range(low - 4, high + 5):
                        result = plain_drag(found, places, wagon, place)
                        wrong = plain_out_of_reach(yard, places, wagon, place)
                        self.assertEqual(result is None, wrong != [])
                        if result is None:
                            self.assert_error(
                                OutOfReach(wrong[0]), dragged, yard, places, wagon, place)
                        else:
                            self.assertEqual(dragged(yard, places, wagon, place), result)

    def test_forty_wagons(self):
        close = tuple(range(40))
        self.assertEqual(dragged(CHAIN, close, 0, 100), tuple(range(100, 140)))
        self.assertEqual(dragged(CHAIN, close, 39, 40), close[:39] + (40,))
        self.assertEqual(dragged(CHAIN, close, 39, 41), close[:38] + (39, 41))
        self.assertEqual(dragged(CHAIN, close, 39, 78), tuple(range(0, 80, 2)))
        self.assertEqual(dragged(CHAIN, close, 39, 80), tuple(range(2, 82, 2)))
        self.assertEqual(dragged(CHAIN, close, 0, 4961), tuple(range(4961, 5001)))
        self.assert_error(OutOfReach(39), dragged, CHAIN, close, 0, 4962)
        self.assert_error(OutOfReach(1), dragged, CHAIN, close, 0, 5000)
        self.assertEqual(dragged(STAR, (50,) * 40, 7, 40), (40,) + (45,) * 6 + (40,) + (45,) * 32)
        self.assertEqual(dragged(STAR, (50,) * 40, 39, 60), (55,) * 39 + (60,))

    def test_drawn_trees(self):
        for seed in range(8):
            yard, places = drawn_tree(seed, 40, 50)
            for wagon in range(seed, 40, 9):
                for place in (places[wagon] - 9, places[wagon] + 1, places[wagon] + 25):
                    wrong = plain_out_of_reach(yard, places, wagon, place)
                    if wrong:
                        self.assert_error(OutOfReach(wrong[0]), dragged, yard, places, wagon, place)
                        continue
                    expected = []
                    for v, old in enumerate(places):
                        least, greatest = span(yard, wagon, v)
                        nearest = max(old, place + least) if place > places[wagon] else (
                            min(old, place + greatest))
                        expected.append(nearest)
                    self.assertEqual(dragged(yard, places, wagon, place), tuple(expected))

    def test_far_walls(self):
        yard = (((-MOST, MOST),) * 3, ((0, 1, 1, 2), (1, 2, -MOST, MOST)))
        places = (-MOST, 1 - MOST, -MOST)
        self.assertEqual(dragged(yard, places, 0, MOST - 1), (MOST - 1, MOST, 0))
        self.assertEqual(dragged(yard, places, 2, MOST), (-2, 0, MOST))
        self.assert_error(OutOfReach(1), dragged, yard, places, 0, MOST)
        apart = (((-MOST, MOST), (-MOST, MOST)), ((0, 1, 2 * MOST - 1, 10 ** 10),))
        self.assertEqual(dragged(apart, (-MOST, MOST), 1, MOST - 1), (-MOST, MOST - 1))
        self.assert_error(OutOfReach(0), dragged, apart, (-MOST, MOST), 1, MOST - 2)
        self.assert_error(OutOfReach(1), dragged, apart, (-MOST, MOST), 0, 2 - MOST)
        never = (((-MOST, MOST), (-MOST, MOST)), ((0, 1, -10 ** 10, 10 ** 10),))
        self.assertEqual(dragged(never, (-MOST, MOST), 0, MOST), (MOST, MOST))

    def test_parameters_by_name_and_kind_of_result(self):
        result = dragged(place=5, wagon=2, arrangement=(0, 1, 2), yard=Y)
        self.assertEqual(result, (1, 3, 5))
        self.assertIs(type(result), tuple)


class DragErrorsTest(YardTestCase):
    FUNCTIONS = (dragged, drag_distance)

    def test_yard_and_arrangement_come_first(self):
        for function in self.FUNCTIONS:
            self.assert_yard_errors(function, [None, None, None])
            self.assert_arrangement_errors(function, [Y], [None, None])

    def test_wagons(self):
        for function in self.FUNCTIONS:
            for value in NO_WAGONS:
                with self.subTest(wagon=str(value)[:60]):
                    self.assert_error(InvalidWagon(value), function, Y, (0, 1, 2), value, 3)
                    self.assert_error(InvalidWagon(value), function, Y, (0, 1, 2), value, None)

    def test_places(self):
        for function in self.FUNCTIONS:
            for value in NO_PLACES:
                with self.subTest(place=str(value)[:60]):
                    self.assert_error(InvalidPlace(value), function, Y, (0, 1, 2), 0, value)

    def test_greatest_places_are_places(self):
        for function in self.FUNCTIONS:
            self.assert_error(OutOfReach(0), function, Y, (0, 1, 2), 1, MOST)
            self.assert_error(OutOfReach(0), function, Y, (0, 1, 2), 0, -MOST)
            self.assert_error(InvalidPlace(MOST + 1), function, Y, (0, 1, 2), 1, MOST + 1)

    def test_the_very_values(self):
        value = [0, [1]]
        with self.assertRaises(InvalidWagon) as caught:
            dragged(Y, (0, 1, 2), value, 3)
        self.assertIs(caught.exception.wagon, value)
        with self.assertRaises(InvalidPlace) as caught:
            dragged(Y, (0, 1, 2), 1, value)
        self.assertIs(caught.exception.place, value)
        self.assertEqual(value, [0, [1]])


class DraggedAllTest(YardTestCase):
    def test_no_drag_and_one(self):
        self.assertEqual(dragged_all(Y, (0, 1, 2)), (0, 1, 2))
        self.assertEqual(dragged_all(Y, (0, 1, 2), (2, 5)), (1, 3, 5))
        self.assertIs(type(dragged_all(Y, (0, 1, 2), (2, 5))), tuple)

    def test_several(self):
        self.assertEqual(dragged_all(Y, (0, 1, 2), (2, 5), (0, 4)), (4, 5, 6))
        self.assertEqual(dragged_all(Y, (0, 1, 2), (0, 4), (2, 5)), (3, 4, 5))
        self.assertEqual(dragged_all(Y, (0, 1, 2), (2, 9), (2, 2)), (0, 1, 2))
        self.assertEqual(dragged_all(Y, (0, 1, 2), (1, 1), (1, 1)), (0, 1, 2))

    def test_every_two_drags(self):
        yard = SMALL_YARDS[6]
        drags = [(wagon, place) for wagon in range(3) for place in range(-1, 7)]
        for places in all_arrangements(yard)[::5]:
            for one, two in itertools.product(drags, repeat=2):
                try:
                    expected = dragged(yard, dragged(yard, places, *one), *two)
                except OutOfReach as error:
                    self.assert_error(error, dragged_all, yard, places, one, two)
                else:
                    self.assertEqual(dragged_all(yard, places, one, two), expected)

    def test_many(self):
        drags = [(2, 9), (0, 0)] * 500
        self.assertEqual(dragged_all(Y, (0, 1, 2), *drags), (0, 2, 4))
        self.assertEqual(dragged_all(Y, (0, 1, 2), *drags[:-1]), (5, 7, 9))

    def test_arguments_that_are_no_drags(self):
        for value in NO_DRAGS:
            with self.subTest(drag=str(value)[:60]):
                for drags, index in (
                    ((value,), 0), ((value, None), 0), (((2, 5), value), 1),
                    # A drag that is out of reach, or wrong, ahead of it and behind it.
                    (((0, 9), value), 1), ((value, (0, 9)), 0), (((None, 1), value), 1),
                    (((0, None), value, (7, 7)), 1),
                ):
                    if nested_pair(value):
                        continue
                    self.assert_error(InvalidDrag(index), dragged_all, Y, (0, 1, 2), *drags)

    def test_errors_of_the_first_drag_that_raises_one(self):
        for drags, error in (
            (((0, 9), (None, 0)), OutOfReach(1)),
            (((2, 5), (0, 8), (0, None)), OutOfReach(2)),
            (((None, 0), (0, 9)), InvalidWagon(None)),
            (((2, 5), (0, None), (0, 9)), InvalidPlace(None)),
            (((2, 5), (3, None), (0, 9)), InvalidWagon(3)),
            (((0, 5), (0, True)), InvalidPlace(True)),
            (((0, 5), (True, 0)), InvalidWagon(True)),
            (((0, 7), (1, MOST + 1)), InvalidPlace(MOST + 1)),
            (((0, 7), (1, MOST)), OutOfReach(0)),
        ):
            with self.subTest(drags):
                self.assert_error(error, dragged_all, Y, (0, 1, 2), *drags)

    def test_wrong_wagons_and_places(self):
        for value in NO_WAGONS:
            self.assert_error(InvalidWagon(value), dragged_all, Y, (0, 1, 2), (2, 5), (value, None))
        for value in NO_PLACES:
            self.assert_error(InvalidPlace(value), dragged_all, Y, (0, 1, 2), (2, 5), (1, value))

    def test_yard_and_arrangement_come_first(self):
        self.assert_yard_errors(dragged_all, [None, None])
        self.assert_arrangement_errors(dragged_all, [Y], [None, None])
        self.assert_arrangement_errors(dragged_all, [Y], [])


def nested_pair(value):
    return isinstance(value, tuple) and len(value) == 2


class PushedTest(YardTestCase):
    def test_example(self):
        self.assertEqual(pushed(Y, (0, 1, 2), (0, 1)), (0, 1, 2))
        self.assertEqual(pushed(Y, (0, 1, 3), (1, 1)), (1,))
        self.assertEqual(pushed(Y, (0, 2, 4), (2, 1)), (0, 1, 2))

    def test_every_step(self):
        for yard in SMALL_YARDS:
            found = all_arrangements(yard)
            for places in found:
                for wagon, sign in all_steps(yard):
                    place = places[wagon] + sign
                    result = plain_drag(found, places, wagon, place)
                    if result is None:
                        wrong = plain_out_of_reach(yard, places, wagon, place)
                        self.assert_error(
                            OutOfReach(wrong[0]), pushed, yard, places, (wagon, sign))
                        continue
                    why = reason(yard, places, (wagon, sign))
                    self.assertTrue(why is None or why[1] == "free")
                    expected = tuple(v for v, old in enumerate(places) if result[v] != old)
                    self.assertEqual(pushed(yard, places, (wagon, sign)), expected)
                    possible = is_possible(yard, places, (wagon, sign))
                    self.assertEqual(expected == (wagon,), possible)

    def test_out_of_reach(self):
        self.assert_error(OutOfReach(2), pushed, Y, (7, 8, 9), (0, 1))
        self.assert_error(OutOfReach(0), pushed, Y, (0, 1, 2), (2, -1))
        self.assert_error(OutOfReach(0), pushed, Y, (0, 1, 3), (0, -1))
        walls = (((0, 3), (0, 3), (0, 3)), ((0, 1, 0, 1), (1, 2, 0, 1)))
        self.assert_error(OutOfReach(0), pushed, walls, (3, 3, 3), (0, 1))
        self.assert_error(OutOfReach(1), pushed, walls, (2, 3, 3), (1, 1))

    def test_beyond_all_places(self):
        # The place of the drag is no argument, so it cannot be an invalid one.
        yard = (((-MOST, MOST),), ())
        self.assert_error(OutOfReach(0), pushed, yard, (MOST,), (0, 1))
        self.assert_error(OutOfReach(0), pushed, yard, (-MOST,), (0, -1))
        self.assertEqual(pushed(yard, (MOST,), (0, -1)), (0,))

    def test_forty_wagons(self):
        self.assertEqual(pushed(CHAIN, tuple(range(40)), (0, 1)), tuple(range(40)))
        self.assertEqual(pushed(CHAIN, tuple(range(40)), (30, 1)), tuple(range(30, 40)))
        self.assertEqual(pushed(STAR, (50,) * 40, (0, 1)), tuple(range(40)))
        self.assertEqual(pushed(STAR, (50,) * 40, (9, -1)), (0, 9))

    def test_errors_in_order(self):
        self.assert_yard_errors(pushed, [None, None])
        self.assert_arrangement_errors(pushed, [Y], [None])
        for step in NO_STEPS:
            with self.subTest(step=str(step)[:60]):
                self.assert_error(InvalidStep(step), pushed, Y, (0, 1, 2), step)

    def test_parameters_by_name_and_kind_of_result(self):
        result = pushed(step=(0, 1), arrangement=(0, 1, 2), yard=Y)
        self.assertEqual(result, (0, 1, 2))
        self.assertIs(type(result), tuple)


class DragDistanceTest(YardTestCase):
    def test_distances(self):
        self.assertEqual(drag_distance(Y, (0, 1, 2), 2, 5), 1 + 2 + 3)
        self.assertEqual(drag_distance(Y, (0, 1, 2), 0, 4), 12)
        self.assertEqual(drag_distance(Y, (5, 6, 7), 1, 3), 3 + 3 + 2)
        self.assertEqual(drag_distance(Y, (5, 6, 7), 1, 6), 0)
        self.assertEqual(drag_distance(place=1, wagon=0, arrangement=(0, 2, 3), yard=Y), 1)
        self.assertEqual(drag_distance(CHAIN, tuple(range(40)), 0, 4961), 4961 * 40)
        self.assertEqual(drag_distance((((-MOST, MOST),), ()), (-MOST,), 0, MOST), 2 * MOST)

    def test_every_drag(self):
        yard = SMALL_YARDS[6]
        found = all_arrangements(yard)
        for places in found:
            for wagon, place in itertools.product(range(3), range(-1, 8)):
                result = plain_drag(found, places, wagon, place)
                if result is None:
                    wrong = plain_out_of_reach(yard, places, wagon, place)
                    self.assert_error(
                        OutOfReach(wrong[0]), drag_distance, yard, places, wagon, place)
                else:
                    total = sum(abs(x - old) for x, old in zip(result, places))
                    self.assertEqual(drag_distance(yard, places, wagon, place), total)


class ArgumentsTest(YardTestCase):
    def test_arguments_are_not_modified(self):
        for value in ([0, 1], [(2, 5)], {0: [1]}, ([0], 1)):
            before = copy.deepcopy(value)
            with self.assertRaises((InvalidDrag, InvalidWagon)):
                dragged_all(Y, (0, 1, 2), (2, 5), value)
            with self.assertRaises(InvalidYard):
                dragged(value, (0, 1, 2), 0, 1)
            with self.assertRaises(InvalidArrangement):
                dragged(Y, value, 0, 1)
            with self.assertRaises(InvalidStep):
                pushed(Y, (0, 1, 2), value)
            self.assertEqual(value, before)

    def test_equal_calls_have_equal_results(self):
        for _ in range(2):
            self.assertEqual(dragged(Y, (0, 1, 2), 2, 5), (1, 3, 5))
            self.assertEqual(pushed(Y, (0, 2, 4), (2, 1)), (0, 1, 2))


if __name__ == "__main__":
    unittest.main()
