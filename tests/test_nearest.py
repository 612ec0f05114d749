"""Section 9, section 2 for it, and the interface of coupledyard/nearest.py."""

import copy
import itertools
import random
import unittest

from coupledyard import nearest as module
from coupledyard.errors import (
    Conflicting, InvalidArrangement, InvalidForces, InvalidPins, InvalidTargets, InvalidWeights,
    InvalidYard, NotHeld,
)
from coupledyard.nearest import check_forces, cost, forces, nearest
from coupledyard.pins import conflict_of
from tests.helpers import (
    BIG, CHAIN, EMPTY_YARDS, FOREST, MOST, NO_ARRANGEMENTS, OTHER_KINDS, SMALL_YARDS, STAR, Y,
    YardTestCase, all_arrangements, completions, drawn_tree,
)

NO_TARGETS = OTHER_KINDS + [MOST + 1, -MOST - 1, BIG, -BIG, "0", (0,), [0]]
NO_WEIGHTS = OTHER_KINDS + [-1, 1001, BIG, -BIG, "1", (1,), [1]]
NO_FORCES = OTHER_KINDS + ["1", (1,), [1], (), (0, 0)]


def plain_cost(places, targets, weights):
    weights = weights or (1,) * len(places)
    return sum(w * abs(x - t) for x, t, w in zip(places, targets, weights))


def plain_nearest(found, targets, weights):
    """The least nearest arrangement of those found, as 9.2 tells it."""
    least = min(plain_cost(places, targets, weights) for places in found)
    best = [places for places in found if plain_cost(places, targets, weights) == least]
    result = tuple(min(column) for column in zip(*best))
    assert result in best
    return result


def plain_nearest_of_tree(yard, targets, weights, pins):
    """The same for a tree whose couplings are (i, j, ..) with i nearer to wagon 0.

    It tries all places of each wagon with all of those behind it, place by place.
    """
    pinned = dict(pins)
    tables = [
        {
            place: (weight * abs(place - target), {})
            for place in range(low, high + 1) if pinned.get(wagon, place) == place
        }
        for wagon, ((low, high), target, weight) in enumerate(zip(yard[0], targets, weights))
    ]
    for i, j, least, greatest in sorted(yard[1], key=lambda row: -row[1]):
        new = {}
        for place, (price, below) in tables[i].items():
            choices = [
                (tables[j][other][0], other)
                for other in range(place + least, place + greatest + 1) if other in tables[j]
            ]
            if choices:
                extra, other = min(choices)
                new[place] = (price + extra, {**below, j: other})
        tables[i] = new
    places = {0: min((price, place) for place, (price, _) in tables[0].items())[1]}
    for wagon in range(len(targets)):
        places.update(tables[wagon][places[wagon]][1])
    return tuple(places[wagon] for wagon in range(len(targets)))


def violated(yard, places, targets, amounts, weights, pins):
    """The words for the conditions of 9.3 that are violated, told word by word."""
    weights = weights or (1,) * len(places)
    words = []
    if any(
        amount > 0 and places[j] - places[i] != least
        or amount < 0 and places[j] - places[i] != greatest
        for (i, j, least, greatest), amount in zip(yard[1], amounts)
    ):
        words.append("couplings")
    for v, (low, high) in enumerate(yard[0]):
        load = sum(
            amount * ((j == v) - (i == v)) for (i, j, _, _), amount in zip(yard[1], amounts))
        x, t, w = places[v], targets[v], weights[v]
        if v in dict(pins):
            continue
        too_low = x != low and load < (w if x > t else -w)
        too_high = x != high and load > (-w if x < t else w)
        if too_low or too_high:
            words.append("wagons")
            break
    return words


class NearestTestCase(YardTestCase):
    def assert_nearest(self, yard, targets, weights, pins, expected):
        """Assert the result of nearest, and that the forces hold it."""
        keywords = {"weights": weights, "pins": pins}
        result = nearest(yard, targets, **keywords)
        self.assertEqual(result, expected)
        self.assertIs(type(result), tuple)
        amounts = forces(yard, targets, **keywords)
        self.assertIs(type(amounts), tuple)
        self.assertEqual([type(amount) for amount in amounts], [int] * len(yard[1]))
        self.assertEqual(violated(yard, result, targets, amounts, weights, pins), [])
        self.assertEqual(
            check_forces(yard, result, targets, amounts, **keywords),
            plain_cost(result, targets, weights))

    def assert_conflict(self, yard, targets, weights, pins):
        error = Conflicting(conflict_of(yard, pins))
        self.assert_error(error, nearest, yard, targets, weights=weights, pins=pins)
        self.assert_error(error, forces, yard, targets, weights=weights, pins=pins)


class CostTest(NearestTestCase):
    def test_example(self):
        self.assertEqual(cost(Y, (1, 3, 5), (0, 1, 2)), 6)
        self.assertEqual(cost(Y, (3, 5, 6), (0, 5, 0), weights=(1, 3, 1)), 9)

    def test_weights(self):
        self.assertEqual(cost(Y, (1, 3, 5), (0, 1, 2), weights=None), 6)
        self.assertEqual(cost(Y, (1, 3, 5), (0, 1, 2), weights=(1, 1, 1)), 6)
        self.assertEqual(cost(Y, (1, 3, 5), (0, 1, 2), weights=(0, 0, 0)), 0)
        self.assertEqual(cost(Y, (1, 3, 5), (0, 1, 2), weights=(1000, 0, 2)), 1006)
        self.assertEqual(cost(Y, (1, 3, 5), (1, 3, 5), weights=(1000, 1000, 1000)), 0)

    def test_targets_on_both_sides_and_far_away(self):
        self.assertEqual(cost(Y, (1, 3, 5), (3, 3, 4)), 3)
        self.assertEqual(cost(Y, (1, 3, 5), (-MOST, MOST, 0)), MOST + 1 + MOST - 3 + 5)
        yard = (((-MOST, MOST),) * 40, ())
        result = cost(yard, (MOST,) * 40, (-MOST,) * 40, weights=(1000,) * 40)
        self.assertEqual(result, 40 * 1000 * 2 * MOST)
        self.assertIs(type(result), int)

    def test_parameters_by_name(self):
        result = cost(weights=(1, 2, 3), targets=(0, 0, 0), arrangement=(1, 2, 3), yard=Y)
        self.assertEqual(result, 14)
        with self.assertRaises(TypeError):
            cost(Y, (1, 2, 3), (0, 0, 0), (1, 2, 3))


class NearestTest(NearestTestCase):
    def test_constant(self):
        self.assertEqual(module.MOST_WEIGHT, 1000)
        self.assertIs(type(module.MOST_WEIGHT), int)

    def test_example(self):
        self.assert_nearest(Y, (0, 1, 2), None, ((2, 5),), (1, 3, 5))
        self.assert_nearest(Y, (0, 5, 0), None, (), (0, 1, 2))
        self.assert_nearest(Y, (0, 5, 0), (1, 3, 1), (), (3, 5, 6))
        self.assertEqual(nearest(Y, (0, 1, 2), pins=((2, 5),)), (1, 3, 5))
        self.assertEqual(nearest(Y, (0, 5, 0)), (0, 1, 2))
        self.assertEqual(nearest(Y, (0, 5, 0), weights=(1, 3, 1)), (3, 5, 6))

    def test_targets_that_are_an_arrangement(self):
        for yard in SMALL_YARDS:
            for places in all_arrangements(yard)[::3]:
                self.assert_nearest(yard, places, None, (), places)
                self.assert_nearest(yard, places, (1,) * len(places), (), places)
                pins = tuple(enumerate(places))
                self.assert_nearest(yard, places, None, pins, places)

    def test_weights_of_nothing(self):
        # Every completion is nearest then, so the least completion is the result.
        self.assert_nearest(Y, (5, 6, 7), (0, 0, 0), (), (0, 1, 2))
        self.assert_nearest(Y, (5, 6, 7), (0, 0, 0), ((1, 5),), (3, 5, 6))
        self.assert_nearest(Y, (5, 6, 7), (0, 0, 1), (), (3, 5, 7))
        self.assert_nearest(Y, (5, 6, 7), (1, 0, 0), (), (5, 6, 7))
        self.assert_nearest(Y, (0, 9, 0), (0, 1000, 0), (), (6, 8, 9))

    def test_targets_beyond_the_walls(self):
        self.assert_nearest(Y, (-5, -5, -5), None, (), (0, 1, 2))
        self.assert_nearest(Y, (50, 50, 50), None, (), (7, 8, 9))
        self.assert_nearest(Y, (-MOST, 0, MOST), None, (), (0, 1, 3))
        self.assert_nearest(Y, (-MOST, 0, MOST), (1, 1, 2), (), (0, 2, 4))
        self.assert_nearest(Y, (-MOST, 0, MOST), (1, 1, 3), (), (5, 7, 9))
        self.assert_nearest(Y, (MOST, MOST, -MOST), None, (), (7, 8, 9))
        self.assert_nearest((((-2, 2),), ()), (-MOST,), None, (), (-2,))
        self.assert_nearest((((-2, 2),), ()), (MOST,), None, (), (2,))
        self.assert_nearest((((4, 4),), ()), (0,), (1000,), (), (4,))

    def test_least_of_several(self):
        # Two wagons pull in opposite directions: everything between is nearest.
        yard = (((0, 9), (0, 9)), ((0, 1, 0, 1),))
        self.assert_nearest(yard, (0, 9), None, (), (0, 1))
        self.assert_nearest(yard, (9, 0), None, (), (0, 0))
        self.assert_nearest(yard, (0, 9), (1, 2), (), (8, 9))
        self.assert_nearest(yard, (7, 3), None, (), (3, 3))
        self.assert_nearest(yard, (3, 7), None, (), (3, 4))

    def test_wagons_that_are_not_connected(self):
        self.assert_nearest(FOREST, (10, 20, 12, 15, 15, -3), None, (), (10, 20, 12, 15, 15, 0))
        self.assert_nearest(
            FOREST, (10, 20, 20, 40, 0, 60), None, ((3, 0),), (10, 7, 11, 0, 9, 50))

    def test_small_yards(self):
        draw = random.Random(9)
        for yard in SMALL_YARDS:
            found = all_arrangements(yard)
            count = len(yard[0])
            for _ in range(60):
                targets = tuple(draw.randint(-3, 8) for _ in range(count))
                weights = draw.choice([
                    None, (1,) * count, tuple(draw.choice((0, 1, 2, 1000)) for _ in range(count)),
                    tuple(draw.randint(0, 5) for _ in range(count)),
                ])
                places = draw.choice(found)
                for pins in (
                    (), tuple(pin for pin in enumerate(places) if draw.random() < 0.4),
                    tuple(enumerate(places)),
                ):
                    expected = plain_nearest(completions(yard, pins), targets, weights)
                    self.assert_nearest(yard, targets, weights, pins, expected)

    def test_every_target_of_some_yards(self):
        for yard in (SMALL_YARDS[1], SMALL_YARDS[3], SMALL_YARDS[4]):
            found = all_arrangements(yard)
            for targets in itertools.product(range(-1, 5, 2), repeat=len(yard[0])):
                for weights in itertools.product((0, 1, 3), repeat=len(targets)):
                    expected = plain_nearest(found, targets, weights)
                    self.assert_nearest(yard, targets, weights, (), expected)

    def test_forty_wagons_with_all_places_tried(self):
        draw = random.Random(40)
        for seed in range(12):
            yard, places = drawn_tree(seed, 40, 12)
            targets = tuple(place + draw.randint(-20, 20) for place in places)
            weights = tuple(draw.choice((0, 1, 7, 1000)) for _ in places)
            pins = tuple(pin for pin in enumerate(places) if draw.random() < seed / 40)
            expected = plain_nearest_of_tree(yard, targets, weights, pins)
            self.assert_nearest(yard, targets, weights, pins, expected)

    def test_forty_wagons_in_a_row_and_in_a_star(self):
        draw = random.Random(41)
        rows = (((0, 60),) * 40, tuple((i, i + 1, -1, 2) for i in range(39)))
        for yard in (rows, STAR):
            for _ in range(4):
                targets = tuple(draw.randint(-20, 120) for _ in range(40))
                weights = tuple(draw.randint(0, 1000) for _ in range(40))
                expected = plain_nearest_of_tree(yard, targets, weights, ())
                self.assert_nearest(yard, targets, weights, (), expected)
                expected = plain_nearest_of_tree(yard, targets, (1,) * 40, ((0, 17),))
                self.assert_nearest(yard, targets, None, ((0, 17),), expected)

    def test_places_very_far_apart(self):
        rows = (((-MOST, MOST),) * 40, tuple((i, i + 1, 1, 10 ** 7) for i in range(39)))
        up = tuple(range(MOST - 39, MOST + 1))
        self.assert_nearest(rows, (MOST,) * 40, None, (), up)
        targets = tuple(-MOST if wagon < 20 else MOST for wagon in range(40))
        result = nearest(rows, targets)
        self.assert_nearest(rows, targets, None, (), result)
        for seed in range(20):
            yard, places = drawn_tree(seed, 40, MOST // 2)
            draw = random.Random(seed)
            targets = tuple(draw.randint(-MOST, MOST) for _ in places)
            weights = tuple(draw.randint(0, 1000) for _ in places)
            pins = tuple(pin for pin in enumerate(places) if draw.random() < seed / 30)
            result = nearest(yard, targets, weights=weights, pins=pins)
            self.assert_nearest(yard, targets, weights, pins, result)

    def test_scaled_yards_have_scaled_results(self):
        # All bounds and targets are multiples of the factor, so the places are, too.
        factor = 10 ** 7
        for seed in range(6):
            yard, places = drawn_tree(seed, 40, 12)
            wide = (
                tuple((low * factor, high * factor) for low, high in yard[0]),
                tuple((i, j, one * factor, two * factor) for i, j, one, two in yard[1]),
            )
            draw = random.Random(seed)
            targets = tuple(place + draw.randint(-20, 20) for place in places)
            weights = tuple(draw.choice((0, 1, 999, 1000)) for _ in places)
            expected = plain_nearest_of_tree(yard, targets, weights, ())
            self.assert_nearest(
                wide, tuple(target * factor for target in targets), weights, (),
                tuple(place * factor for place in expected))

    def test_conflicts(self):
        self.assert_conflict(Y, (0, 1, 2), None, ((0, 0), (2, 5)))
        self.assert_conflict(Y, (0, 1, 2), (0, 0, 0), ((0, 8),))
        self.assert_conflict(Y, (0, 1, 2), None, ((0, 20),))
        for yard in EMPTY_YARDS:
            self.assert_conflict(yard, (0,) * len(yard[0]), None, ())
        pins = ((0, 0), (39, 118))
        self.assert_conflict(CHAIN, (0,) * 40, None, pins)

    def test_pins_on_every_wagon(self):
        pins = ((0, 1), (1, 2), (2, 4))
        self.assert_nearest(Y, (9, 9, 9), (1000, 1000, 1000), pins, (1, 2, 4))

    def test_parameters_by_name(self):
        for function, expected in ((nearest, (1, 3, 5)), (forces, (-1, -2))):
            result = function(pins=((2, 5),), weights=(1, 1, 1), targets=(0, 1, 2), yard=Y)
            self.assertEqual(result, expected)
            with self.assertRaises(TypeError):
                function(Y, (0, 1, 2), (1, 1, 1))


class ForcesTest(NearestTestCase):
    def test_example(self):
        self.assertEqual(forces(Y, (0, 1, 2), pins=((2, 5),)), (-1, -2))

    def test_no_couplings(self):
        self.assertEqual(forces((((0, 9), (0, 9)), ()), (4, 50)), ())
        self.assertEqual(forces((((4, 4),), ()), (0,), weights=(1000,)), ())

    def test_only_one_choice(self):
        # No wagon stands at a wall, and both ends are beside their targets.
        targets = (40, 20, 0)
        yard = (((-99, 99),) * 3, ((0, 1, 1, 2), (1, 2, 1, 2)))
        self.assertEqual(nearest(yard, targets, weights=(3, 3, 5)), (19, 20, 21))
        self.assertEqual(forces(yard, targets, weights=(3, 3, 5)), (3, 5))

    def test_forces_are_not_greater_than_all_weights_together(self):
        for seed in range(10):
            yard, places = drawn_tree(seed, 40, 30)
            pins = tuple(enumerate(places))[::3]
            targets = tuple(-place for place in places)
            amounts = forces(yard, targets, weights=(1000,) * 40, pins=pins)
            self.assertLessEqual(max(abs(amount) for amount in amounts), 40000)

    def test_every_nearest_arrangement_is_held(self):
        # All rows between the two targets have the same cost.
        yard = (((0, 9), (0, 9)), ((0, 1, 0, 1),))
        amounts = forces(yard, (0, 9))
        self.assertEqual(amounts, (-1,))
        for place in range(9):
            self.assertEqual(check_forces(yard, (place, place + 1), (0, 9), amounts), 8)


class CheckForcesTest(NearestTestCase):
    def test_example(self):
        self.assertEqual(check_forces(Y, (1, 3, 5), (0, 1, 2), (-1, -2), pins=((2, 5),)), 6)
        self.assert_error(
            NotHeld("couplings"), check_forces, Y, (1, 3, 5), (0, 1, 2), (-1, 2), pins=((2, 5),))

    def test_pins_come_first(self):
        for pins in (((2, 6),), ((0, 1), (1, 4)), ((0, 0), (2, 5)), ((0, 99),)):
            self.assert_error(
                NotHeld("pins"), check_forces, Y, (1, 3, 5), (0, 1, 2), (-1, 2), pins=pins)
            self.assert_error(
                NotHeld("pins"), check_forces, Y, (1, 3, 5), (0, 1, 2), (-1, -2), pins=pins)

    def test_both_violated(self):
        self.assert_error(
            NotHeld("couplings"), check_forces, Y, (1, 3, 5), (0, 1, 2), (5, 5))
        self.assert_error(
            NotHeld("couplings"), check_forces, Y, (1, 3, 5), (0, 1, 2), (-1, 5))

    def test_first_condition_alone(self):
        # Every wagon is pinned, so that every load is good.
        for places, low, high in (((1, 2, 4), 1, -1), ((1, 3, 4), -1, 1)):
            pins = tuple(enumerate(places))
            for amounts, good in (
                ((0, 0), True), ((low, 0), True), ((0, high), True), ((7 * low, 9 * high), True),
                ((-low, 0), False), ((0, -high), False), ((low, -high), False),
                ((BIG * low, BIG * high), True), ((BIG * low, -BIG * high), False),
            ):
                if good:
                    result = check_forces(Y, places, (0, 0, 0), amounts, pins=pins)
                    self.assertEqual(result, sum(places))
                else:
                    self.assert_error(
                        NotHeld("couplings"), check_forces, Y, places, (0, 0, 0), amounts, pins=pins)

    def test_between_its_bounds_a_coupling_has_no_force(self):
        yard = (((0, 9), (0, 9)), ((0, 1, 1, 3),))
        for force in (1, -1, BIG, -BIG):
            self.assert_error(
                NotHeld("couplings"), check_forces, yard, (2, 4), (2, 4), (force,),
                pins=((0, 2), (1, 4)))
        self.assertEqual(check_forces(yard, (2, 4), (2, 4), (0,)), 0)

    def test_loads_of_one_coupling(self):
        # Wagon 1 is pinned. The load of wagon 0 is the negative force.
        yard = (((0, 9), (0, 9)), ((0, 1, 0, 5),))
        for place, target, weight, force, good in (
            # Beside the target: the load is at most -w below it and at least w above it.
            (4, 6, 3, 3, True), (4, 6, 3, 4, False), (4, 6, 3, 2, False), (4, 6, 0, 0, True),
            (4, 6, 0, 1, False), (4, 4, 3, 3, True), (4, 4, 3, 0, True), (4, 4, 3, 4, False),
            (4, 4, 0, 1, False), (4, 4, 1000, 1000, True), (4, 4, 1000, 1001, False),
            (4, 3, 3, 0, False), (4, 3, 3, 3, False), (4, 3, 0, 0, True),
            # At the low wall there is no least load, at the high wall no greatest one.
            (0, 6, 3, 3, True), (0, 6, 3, 4, True), (0, 6, 3, BIG, True), (0, 6, 3, 2, False),
            (0, 0, 3, 9, True), (0, -1, 3, 0, True), (0, -1, 3, BIG, True),
            (9, 9, 3, 3, True), (9, 9, 3, 4, False), (9, 10, 3, 0, True), (9, 10, 3, 3, True),
            (9, 10, 3, 4, False), (9, 4, 3, 0, False), (9, 4, 0, 0, True), (9, 4, 0, 1, False),
        ):
            with self.subTest(place=place, target=target, weight=weight, force=force):
                args = (yard, (place, place), (target, 2), (force,))
                keywords = {"weights": (weight, 1), "pins": ((1, place),)}
                if good:
                    expected = weight * abs(place - target) + abs(place - 2)
                    self.assertEqual(check_forces(*args, **keywords), expected)
                else:
                    self.assert_error(NotHeld("wagons"), check_forces, *args, **keywords)

    def test_loads_that_come_from_behind(self):
        # Wagon 0 is pinned and the coupling at its greatest: the load of wagon 1 is the force.
        yard = (((0, 9), (0, 9)), ((0, 1, -5, 0),))
        for place, target, weight, force, good in (
            (4, 1, 3, -3, False), (4, 6, 3, -3, True), (4, 6, 3, -4, False), (4, 6, 3, -2, False),
            (4, 4, 3, -3, True), (4, 4, 3, -4, False), (4, 4, 3, 0, True), (0, 4, 3, -2, False),
            (0, 4, 3, -3, True), (0, 4, 3, -BIG, True), (9, 9, 3, -3, True), (9, 9, 3, -4, False),
            (9, 10, 3, -3, True), (9, 10, 3, -2, True), (9, 10, 3, -4, False),
        ):
            with self.subTest(place=place, target=target, weight=weight, force=force):
                args = (yard, (place, place), (2, target), (force,))
                keywords = {"weights": (1, weight), "pins": ((0, place),)}
                if good:
                    expected = weight * abs(place - target) + abs(place - 2)
                    self.assertEqual(check_forces(*args, **keywords), expected)
                else:
                    self.assert_error(NotHeld("wagons"), check_forces, *args, **keywords)

    def test_walls_of_one_place(self):
        yard = (((4, 4), (0, 9)), ((0, 1, 0, 5),))
        for force in (0, 1, 1000, BIG):
            self.assertEqual(
                check_forces(yard, (4, 4), (0, 4), (force,), pins=((1, 4),)), 4)

    def test_pinned_wagons_bear_any_load(self):
        for force in (0, -1, -1000, -BIG):
            self.assertEqual(
                check_forces(Y, (1, 3, 4), (1, 3, 4), (force, 0), pins=((0, 1), (1, 3))), 0)
        self.assert_error(
            NotHeld("wagons"), check_forces, Y, (1, 3, 4), (1, 3, 4), (-2, 0), pins=((0, 1),))
        self.assert_error(
            NotHeld("wagons"), check_forces, Y, (1, 3, 4), (1, 3, 4), (-2, 0), pins=((1, 3),))

    def test_all_small_forces(self):
        draw = random.Random(3)
        for yard in (Y, SMALL_YARDS[4], SMALL_YARDS[6], SMALL_YARDS[7]):
            found = all_arrangements(yard)
            for _ in range(25):
                targets = tuple(draw.randint(-2, 7) for _ in range(3))
                weights = draw.choice([None, tuple(draw.randint(0, 2) for _ in range(3))])
                places = draw.choice(found)
                pins = tuple(pin for pin in enumerate(places) if draw.random() < 0.3)
                for amounts in itertools.product(range(-3, 4), repeat=len(yard[1])):
                    words = violated(yard, places, targets, amounts, weights, pins)
                    args = (yard, places, targets, amounts)
                    keywords = {"weights": weights, "pins": pins}
                    if words:
                        self.assert_error(NotHeld(words[0]), check_forces, *args, **keywords)
                    else:
                        price = plain_cost(places, targets, weights)
                        self.assertEqual(check_forces(*args, **keywords), price)
                        best = plain_nearest(completions(yard, pins), targets, weights)
                        self.assertEqual(price, plain_cost(best, targets, weights))

    def test_no_couplings(self):
        yard = (((0, 9), (0, 9)), ())
        self.assertEqual(check_forces(yard, (3, 4), (3, 4), ()), 0)
        self.assertEqual(check_forces(yard, (0, 9), (-3, 14), ()), 8)
        self.assert_error(NotHeld("wagons"), check_forces, yard, (3, 4), (3, 5), ())

    def test_parameters_by_name(self):
        result = check_forces(
            pins=((2, 5),), weights=(1, 1, 1), forces=(-1, -2), targets=(0, 1, 2),
            arrangement=(1, 3, 5), yard=Y)
        self.assertEqual(result, 6)
        self.assertIs(type(result), int)
        with self.assertRaises(TypeError):
            check_forces(Y, (1, 3, 5), (0, 1, 2), (-1, -2), (1, 1, 1))


class ErrorsTest(YardTestCase):
    """The same errors of all four functions, and their order."""

    def test_yard_comes_first(self):
        self.assert_yard_errors(cost, [None, None], weights=0)
        self.assert_yard_errors(nearest, [None], weights=0, pins=None)
        self.assert_yard_errors(forces, [None], weights=0, pins=None)
        self.assert_yard_errors(check_forces, [None, None, None], weights=0, pins=None)

    def test_arrangement_comes_second(self):
        self.assert_arrangement_errors(cost, [Y], [None], weights=0)
        self.assert_arrangement_errors(check_forces, [Y], [None, None], weights=0, pins=None)

    def assert_targets(self, error, value):
        self.assert_error(error, cost, Y, (0, 1, 2), value, weights=0)
        self.assert_error(error, nearest, Y, value, weights=0, pins=None)
        self.assert_error(error, forces, Y, value, weights=0, pins=None)
        self.assert_error(error, check_forces, Y, (0, 1, 2), value, None, weights=0, pins=None)

    def test_targets(self):
        for value in OTHER_KINDS + [[0, 1, 2], (0, 1), (0, 1, 2, 3), "012", 3, {0: 0, 1: 1, 2: 2}]:
            with self.subTest(targets=str(value)[:60]):
                self.assert_targets(InvalidTargets(None), value)
        for value in NO_TARGETS:
            with self.subTest(target=str(value)[:60]):
                self.assert_targets(InvalidTargets(0), (value, 1, None))
                self.assert_targets(InvalidTargets(1), (0, value, None))
                self.assert_targets(InvalidTargets(2), (0, 1, value))

    def test_greatest_targets(self):
        self.assertEqual(nearest(Y, (MOST, MOST, MOST)), (7, 8, 9))
        self.assertEqual(nearest(Y, (-MOST, -MOST, -MOST)), (0, 1, 2))

    def assert_weights(self, error, value):
        self.assert_error(error, cost, Y, (0, 1, 2), (0, 1, 2), weights=value)
        self.assert_error(error, nearest, Y, (0, 1, 2), weights=value, pins=None)
        self.assert_error(error, nearest, Y, (0, 1, 2), weights=value, pins=((0, 8),))
        self.assert_error(error, forces, Y, (0, 1, 2), weights=value, pins=None)
        self.assert_error(
            error, check_forces, Y, (0, 1, 2), (0, 1, 2), (0, 0), weights=value, pins=None)

    def test_weights(self):
        for value in OTHER_KINDS + [[1, 1, 1], (1, 1), (1, 1, 1, 1), "111", 0, {0: 1, 1: 1, 2: 1}]:
            if value is not None:
                with self.subTest(weights=str(value)[:60]):
                    self.assert_weights(InvalidWeights(None), value)
        for value in NO_WEIGHTS:
            with self.subTest(weight=str(value)[:60]):
                self.assert_weights(InvalidWeights(0), (value, 1, None))
                self.assert_weights(InvalidWeights(1), (0, value, None))
                self.assert_weights(InvalidWeights(2), (1000, 0, value))

    def test_forces(self):
        values = OTHER_KINDS + [[0, 0], (0,), (0, 0, 0), "00", 0, {0: 0, 1: 0}]
        for value in values:
            with self.subTest(forces=str(value)[:60]):
                self.assert_error(
                    InvalidForces(None), check_forces, Y, (0, 1, 2), (0, 1, 2), value,
                    weights=0, pins=None)
        for value in NO_FORCES:
            for amounts, index in (((value, None), 0), ((0, value), 1)):
                with self.subTest(force=str(value)[:60]):
                    self.assert_error(
                        InvalidForces(index), check_forces, Y, (0, 1, 2), (0, 1, 2), amounts,
                        weights=0, pins=None)
        self.assert_error(
            InvalidForces(None), check_forces, (((0, 9),), ()), (0,), (0,), (0,))

    def test_forces_of_any_size_are_valid(self):
        for force in (BIG, -BIG, 10 ** 10):
            for amounts in ((force, 0), (0, force)):
                with self.assertRaises(NotHeld):
                    check_forces(Y, (0, 1, 2), (0, 1, 2), amounts)

    def test_pins_come_last(self):
        self.assert_pins_errors(nearest, [Y, (0, 1, 2)])
        self.assert_pins_errors(nearest, [Y, (0, 1, 2)], weights=(0, 0, 0))
        self.assert_pins_errors(forces, [Y, (0, 1, 2)], weights=(0, 0, 0))
        self.assert_pins_errors(check_forces, [Y, (0, 1, 2), (0, 1, 2), (9, 9)])

    def test_pins_come_before_conflicts(self):
        pins = ((0, 0), (2, 5), (2, 6))
        for function in (nearest, forces):
            self.assert_error(InvalidPins(2), function, Y, (0, 1, 2), pins=pins)
            self.assert_error(
                InvalidTargets(0), function, EMPTY_YARDS[0], (None, 0), pins=())
            self.assert_error(
                InvalidWeights(None), function, EMPTY_YARDS[0], (0, 0), weights=())


class ArgumentsTest(YardTestCase):
    def test_arguments_are_not_modified(self):
        for value in ([0, 1, 2], {0: [1]}, (0, [1], 2)):
            before = copy.deepcopy(value)
            with self.assertRaises(InvalidTargets):
                nearest(Y, value)
            with self.assertRaises(InvalidWeights):
                forces(Y, (0, 1, 2), weights=value)
            with self.assertRaises(InvalidPins):
                nearest(Y, (0, 1, 2), pins=value)
            with self.assertRaises(InvalidForces):
                check_forces(Y, (0, 1, 2), (0, 1, 2), value)
            with self.assertRaises(InvalidArrangement):
                cost(Y, value, (0, 1, 2))
            with self.assertRaises(InvalidYard):
                nearest(value, (0, 1, 2))
            self.assertEqual(value, before)

    def test_equal_calls_have_equal_results(self):
        yard, places = drawn_tree(5, 40, 30)
        targets = tuple(-place for place in places)
        for _ in range(2):
            self.assertEqual(nearest(Y, (0, 5, 0), weights=(1, 3, 1)), (3, 5, 6))
        self.assertEqual(nearest(yard, targets), nearest(yard, targets))
        self.assertEqual(forces(yard, targets), forces(yard, targets))

    def test_there_are_wrong_values(self):
        self.assertGreater(len(NO_ARRANGEMENTS), len(OTHER_KINDS))


if __name__ == "__main__":
    unittest.main()
