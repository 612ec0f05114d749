"""Section 11, section 2 for it, and the interface of coupledyard/counting.py."""

import copy
import inspect
import itertools
import math
import random
import unittest

from coupledyard import counting
from coupledyard.arrangements import is_arrangement
from coupledyard.counting import (
    arrangement_at, arrangements, count_arrangements, count_schedules, number_of,
)
from coupledyard.errors import (
    InvalidArrangement, InvalidNumber, InvalidPins, InvalidYard, TooLarge,
)
from coupledyard.pins import is_completion, least_completion
from tests.helpers import (
    BIG, CHAIN, EMPTY_YARDS, FOREST, MOST, NO_TUPLES_OF_PINS, OTHER_KINDS, SMALL_YARDS, Y,
    YardTestCase, all_arrangements, completions, drawn_tree, first_of, moved,
)

WIDE = (((0, 1000),) * 40, tuple((i, i + 1, -30, 40) for i in range(39)))
TOO_WIDE = (((0, 9), (-1, 1000), (0, 9)), ())


def small_pins(yard):
    """Pins of every kind: on some wagons, on all, contradicting ones, beyond the walls."""
    draw = random.Random(str(yard))
    found = all_arrangements(yard)
    yield ()
    for _ in range(6):
        if found:
            places = draw.choice(found)
            yield tuple(pin for pin in enumerate(places) if draw.random() < 0.5)
        yield tuple(
            (wagon, draw.randint(low - 1, high + 1)) for wagon, (low, high) in enumerate(yard[0])
            if draw.random() < 0.5)
    if found:
        yield tuple(enumerate(found[-1]))
    yield ((0, yard[0][0][1] + 1),)
    yield tuple((wagon, -MOST) for wagon in range(len(yard[0])))


def plain_schedules(found, start, goal):
    """The number of shortest schedules, by trying all steps towards the goal."""
    if start == goal:
        return 1
    total = 0
    for wagon, there in enumerate(goal):
        if start[wagon] != there:
            new = moved(start, (wagon, 1 if there > start[wagon] else -1))
            if new in found:
                total += plain_schedules(found, new, goal)
    return total


class CountArrangementsTest(YardTestCase):
    def test_example(self):
        self.assertEqual(count_arrangements(Y), 28)

    def test_constants(self):
        self.assertEqual((counting.MOST_WIDTH, counting.MOST_STATES), (1000, 20000))

    def test_no_arrangement_one_and_many(self):
        for yard in EMPTY_YARDS:
            self.assertEqual(count_arrangements(yard), 0)
        self.assertEqual(count_arrangements((((4, 4),), ())), 1)
        self.assertEqual(count_arrangements((((0, 0), (1, 1)), ((0, 1, 1, 2),))), 1)
        self.assertEqual(count_arrangements((((-2, 2),), ())), 5)
        self.assertEqual(count_arrangements((((0, 3), (-2, 2)), ())), 20)

    def test_all_small_yards_and_pins(self):
        for yard in SMALL_YARDS + EMPTY_YARDS:
            for pins in small_pins(yard):
                self.assertEqual(count_arrangements(yard, pins=pins), len(completions(yard, pins)))

    def test_conflicts(self):
        self.assertEqual(count_arrangements(Y, pins=((0, 0), (2, 5))), 0)
        self.assertEqual(count_arrangements(Y, pins=((0, 10),)), 0)
        self.assertEqual(count_arrangements(Y, pins=((0, 1), (1, 2), (2, 3))), 1)

    def test_forty_wagons(self):
        self.assertEqual(count_arrangements((((0, 1000),) * 40, ())), 1001 ** 40)
        apart = (((0, 1000),) * 40, tuple((i, i + 1, 0, 1) for i in range(39)))
        # The first place and the set of the wagons that stand one place farther.
        expected = sum(math.comb(39, k) * (1001 - k) for k in range(40))
        self.assertEqual(count_arrangements(apart), expected)
        self.assertEqual(count_arrangements(apart, pins=((20, 500),)), 2 ** 39)
        star = (((0, 1000),) * 40, tuple((0, j, 0, 5) for j in range(1, 40)))
        expected = sum(min(6, 1001 - place) ** 39 for place in range(1001))
        self.assertEqual(count_arrangements(star), expected)

    def test_widths_of_1000_and_1001(self):
        self.assertEqual(count_arrangements((((-MOST, 1000 - MOST),), ())), 1001)
        self.assertEqual(count_arrangements((((MOST - 1000, MOST), (0, 1000)), ())), 1001 ** 2)
        for yard in (
            (((0, 1001),), ()), (((0, 0), (-1, 1000)), ()), (((-MOST, MOST),) * 40, ()),
        ):
            self.assert_error(TooLarge(1000), count_arrangements, yard)

    def test_width_comes_after_pins_and_before_conflicts(self):
        self.assert_error(InvalidPins(0), count_arrangements, TOO_WIDE, pins=(None,))
        self.assert_error(TooLarge(1000), count_arrangements, TOO_WIDE, pins=((0, 99),))
        self.assert_error(TooLarge(1000), count_arrangements, TOO_WIDE, pins=((1, 3),))
        wide = (((0, 2000), (0, 2000)), ((0, 1, 3000, 4000),))
        self.assert_error(TooLarge(1000), count_arrangements, wide)

    def test_errors_in_order(self):
        self.assert_yard_errors(count_arrangements, [], pins=None)
        self.assert_pins_errors(count_arrangements, [Y])

    def test_parameters_by_name(self):
        self.assertEqual(count_arrangements(pins=((1, 1),), yard=Y), 2)
        self.assertIs(type(count_arrangements(Y)), int)
        with self.assertRaises(TypeError):
            count_arrangements(Y, ())


class ArrangementsTest(YardTestCase):
    def test_example(self):
        self.assertEqual(list(arrangements(Y, pins=((1, 1),))), [(0, 1, 2), (0, 1, 3)])

    def test_all_small_yards_and_pins(self):
        for yard in SMALL_YARDS + EMPTY_YARDS:
            for pins in small_pins(yard):
                # Products of ranges come in ascending order.
                self.assertEqual(list(arrangements(yard, pins=pins)), completions(yard, pins))

    def test_drawn_yards(self):
        draw = random.Random(11)
        for seed in range(60):
            yard, places = drawn_tree(seed, 4, 3)
            pins = tuple(pin for pin in enumerate(places) if draw.random() < 0.3)
            self.assertEqual(list(arrangements(yard, pins=pins)), completions(yard, pins))
            self.assertEqual(count_arrangements(yard, pins=pins), len(completions(yard, pins)))

    def test_nothing_if_there_is_a_conflict(self):
        for yard in EMPTY_YARDS:
            self.assertEqual(list(arrangements(yard)), [])
        self.assertEqual(list(arrangements(Y, pins=((0, 0), (2, 5)))), [])
        self.assertEqual(list(arrangements(Y, pins=((2, MOST),))), [])

    def test_first_results_between_far_walls(self):
        yard = (((-MOST, MOST),) * 3, ((0, 1, 1, 2), (1, 2, -MOST, MOST)))
        self.assertEqual(
            list(itertools.islice(arrangements(yard), 3)),
            [(-MOST, 1 - MOST, -MOST), (-MOST, 1 - MOST, 1 - MOST), (-MOST, 1 - MOST, 2 - MOST)])
        self.assertEqual(
            list(itertools.islice(arrangements(yard, pins=((2, MOST),)), 4)),
            [(-2, 0, MOST), (-1, 0, MOST), (-1, 1, MOST), (0, 1, MOST)])
        free = (((-MOST, MOST),) * 40, ())
        found = list(itertools.islice(arrangements(free), 5))
        self.assertEqual(found, [(-MOST,) * 39 + (k - MOST,) for k in range(5)])

    def test_forty_wagons(self):
        for seed in range(6):
            yard, _ = drawn_tree(seed, 40, 20)
            pins = ((39, least_completion(yard, ())[39] + 1),) if seed % 2 else ()
            found = list(itertools.islice(arrangements(yard, pins=pins), 300))
            if not found:
                continue
            self.assertEqual(found[0], least_completion(yard, pins))
            self.assertEqual(found, sorted(set(found)))
            for places in found:
                self.assertTrue(is_completion(yard, pins, places))

    def test_forty_wagons_to_the_end(self):
        yard = (((0, 2),) * 40, tuple((i, i + 1, 0, 1) for i in range(39)))
        found = list(arrangements(yard))
        self.assertEqual(len(found), count_arrangements(yard))
        self.assertEqual(found, sorted(set(found)))
        self.assertTrue(all(is_arrangement(yard, places) for places in found))
        self.assertEqual(found[-1], (2,) * 40)

    def test_two_in_turn_and_stopped_early(self):
        one = arrangements(Y)
        two = arrangements(Y, pins=((1, 5),))
        self.assertEqual([next(one), next(two)], [(0, 1, 2), (3, 5, 6)])
        self.assertEqual([next(one), next(two)], [(0, 1, 3), (3, 5, 7)])
        one.close()
        self.assertEqual([next(two), next(two), next(two, None)], [(4, 5, 6), (4, 5, 7), None])
        self.assertEqual(next(arrangements(Y)), (0, 1, 2))

    def test_errors_with_the_first_request(self):
        self.assert_yard_errors(first_of(arrangements), [], pins=None)
        self.assert_pins_errors(first_of(arrangements), [Y])
        # Also where nothing would be yielded.
        for value, index in NO_TUPLES_OF_PINS[-3:]:
            self.assert_error(InvalidPins(index), first_of(arrangements), Y, pins=value)
        self.assert_error(InvalidPins(0), first_of(arrangements), EMPTY_YARDS[0], pins=(None,))
        with self.assertRaises(InvalidYard):
            next(arrangements(None))

    def test_is_a_generator_of_tuples(self):
        results = arrangements(yard=Y, pins=((1, 1),))
        self.assertTrue(inspect.isgenerator(results))
        self.assertEqual([type(places) for places in results], [tuple, tuple])
        with self.assertRaises(TypeError):
            arrangements(Y, ())


class NumbersTest(YardTestCase):
    def test_example(self):
        self.assertEqual(arrangement_at(Y, 3), (0, 2, 4))
        self.assertEqual(number_of(Y, (0, 2, 4)), 3)

    def test_every_number_of_small_yards(self):
        for yard in SMALL_YARDS + EMPTY_YARDS:
            found = all_arrangements(yard)
            for number, places in enumerate(found):
                self.assertEqual(arrangement_at(yard, number), places)
                self.assertEqual(number_of(yard, places), number)
            for number in (len(found), len(found) + 1, -1, BIG, -BIG):
                self.assert_error(InvalidNumber(number), arrangement_at, yard, number)

    def test_drawn_yards(self):
        for seed in range(60):
            yard, places = drawn_tree(seed, 4, 3)
            found = all_arrangements(yard)
            self.assertEqual([arrangement_at(yard, number) for number in range(len(found))], found)
            self.assertEqual(number_of(yard, places), found.index(places))

    def test_wagons_of_groups_in_turn(self):
        yard = (((0, 2), (0, 3), (0, 2), (0, 3), (1, 1)), ((0, 2, 0, 1), (1, 3, -1, 1)))
        found = all_arrangements(yard)
        self.assertEqual([arrangement_at(yard, number) for number in range(len(found))], found)
        self.assertEqual([number_of(yard, places) for places in found], list(range(len(found))))

    def test_large_yards(self):
        draw = random.Random(12)
        free = (((0, 1000),) * 40, ())
        self.assertEqual(arrangement_at(free, 0), (0,) * 40)
        self.assertEqual(arrangement_at(free, 1001 ** 40 - 1), (1000,) * 40)
        self.assertEqual(arrangement_at(free, 1001 ** 39 * 7 + 5), (7,) + (0,) * 38 + (5,))
        self.assertEqual(number_of(free, (7,) + (0,) * 38 + (5,)), 1001 ** 39 * 7 + 5)
        self.assert_error(InvalidNumber(1001 ** 40), arrangement_at, free, 1001 ** 40)
        star = (((0, 100),) * 40, tuple((j, 39, -3, 4) for j in range(39)))
        tree, _ = drawn_tree(5, 40, 30)
        for yard in (WIDE, star, tree):
            total = count_arrangements(yard)
            self.assertGreater(total, 10 ** 18)
            self.assertEqual(arrangement_at(yard, 0), next(arrangements(yard)))
            for number in (0, 1, total // 3, total - 1, draw.randrange(total)):
                places = arrangement_at(yard, number)
                self.assertTrue(is_arrangement(yard, places))
                self.assertEqual(number_of(yard, places), number)
            self.assert_error(InvalidNumber(total), arrangement_at, yard, total)
            first = [arrangement_at(yard, number) for number in range(8)]
            self.assertEqual(first, list(itertools.islice(arrangements(yard), 8)))

    def test_a_large_number_against_a_count_with_pins(self):
        # The arrangements ahead of (a, b, ..) are those with a smaller first difference.
        yard, places = drawn_tree(3, 12, 20)
        places = arrangement_at(yard, count_arrangements(yard) * 2 // 3)
        ahead = 0
        for wagon, place in enumerate(places):
            pins = tuple(enumerate(places[:wagon]))
            for other in range(yard[0][wagon][0], place):
                ahead += count_arrangements(yard, pins=pins + ((wagon, other),))
        self.assertEqual(number_of(yard, places), ahead)

    def test_wrong_numbers(self):
        for value in OTHER_KINDS + [-1, 28, BIG, -BIG, "0", (0,), [0]]:
            with self.subTest(number=str(value)[:60]):
                self.assert_error(InvalidNumber(value), arrangement_at, Y, value)
        for yard in EMPTY_YARDS:
            self.assert_error(InvalidNumber(0), arrangement_at, yard, 0)
            self.assert_error(InvalidNumber(None), arrangement_at, yard, None)

    def test_widths_of_1000_and_1001(self):
        yard = (((-500, 500), (0, 9)), ())
        self.assertEqual(arrangement_at(yard, 10009), (500, 9))
        self.assertEqual(number_of(yard, (500, 9)), 10009)
        for number in (0, None, -1):
            self.assert_error(TooLarge(1000), arrangement_at, TOO_WIDE, number)
        self.assert_error(TooLarge(1000), number_of, TOO_WIDE, (0, -1, 0))
        self.assert_error(InvalidArrangement("places", 1), number_of, TOO_WIDE, (0, -2, 0))

    def test_errors_in_order(self):
        self.assert_yard_errors(arrangement_at, [None])
        self.assert_yard_errors(number_of, [None])
        self.assert_arrangement_errors(number_of, [Y], [])

    def test_kinds_of_values_and_names(self):
        self.assertEqual(arrangement_at(number=3, yard=Y), (0, 2, 4))
        self.assertEqual(number_of(arrangement=(0, 2, 4), yard=Y), 3)
        self.assertIs(type(arrangement_at(Y, 3)), tuple)
        self.assertIs(type(number_of(Y, (0, 2, 4))), int)


class CountSchedulesTest(YardTestCase):
    def test_the_same_arrangement_twice(self):
        self.assertEqual(count_schedules(Y, (0, 1, 2), (0, 1, 2)), 1)
        self.assertEqual(count_schedules(CHAIN, tuple(range(40)), tuple(range(40))), 1)

    def test_wagons_without_couplings(self):
        free = (((0, 99999),) * 3, ())
        self.assertEqual(count_schedules(free, (0, 0, 0), (3, 0, 0)), 1)
        self.assertEqual(count_schedules(free, (0, 5, 5), (3, 3, 5)), math.comb(5, 2))
        self.assertEqual(
            count_schedules(free, (5, 5, 5), (9, 2, 4)),
            math.factorial(8) // (24 * 6))
        self.assertEqual(
            count_schedules(free, (0, 0, 0), (10, 10, 10)), math.factorial(30) // math.factorial(10) ** 3)

    def test_coupled_wagons(self):
        self.assertEqual(count_schedules(Y, (0, 1, 2), (1, 2, 3)), 1)
        self.assertEqual(count_schedules(Y, (1, 2, 3), (0, 1, 2)), 1)
        self.assertEqual(count_schedules(Y, (0, 1, 2), (2, 3, 4)), 2)

    def test_small_yards_and_the_opposite_direction(self):
        for yard in SMALL_YARDS:
            found = set(all_arrangements(yard))
            pairs = list(itertools.product(sorted(found), repeat=2))
            for start, goal in pairs[::len(pairs) // 60 + 1]:
                if sum(abs(x - y) for x, y in zip(start, goal)) > 9:
                    continue
                expected = plain_schedules(found, start, goal)
                self.assertEqual(count_schedules(yard, start, goal), expected)
                self.assertEqual(count_schedules(yard, goal, start), expected)

    def test_forty_wagons(self):
        yard = (((0, 9),) * 40, tuple((i, i + 1, 0, 1) for i in range(39)))
        start = (0,) * 40
        # Only the last wagon can begin, then the one before it, and so on.
        self.assertEqual(count_schedules(yard, start, (0,) * 26 + (1,) * 14), 1)
        star = (((0, 9),) * 40, tuple((0, j, 0, 1) for j in range(1, 40)))
        goal = (0,) + (1,) * 14 + (0,) * 25
        self.assertEqual(count_schedules(star, start, goal), math.factorial(14))
        self.assertEqual(count_schedules(star, goal, start), math.factorial(14))
        # Wagon 0 comes behind all others here.
        star = (((0, 9),) * 14, tuple((0, j, 0, 1) for j in range(1, 14)))
        self.assertEqual(count_schedules(star, (0,) * 14, (1,) * 14), math.factorial(13))
        self.assertEqual(count_schedules(star, (1,) * 14, (0,) * 14), math.factorial(13))

    def test_20000_and_20001_states(self):
        free = (((-MOST, MOST),) * 40, ())
        start = (0,) * 40
        for goal, good in (
            ((19999,), True), ((20000,), False), ((-19999,), True), ((-20000,), False),
            ((99, 199), True), ((99, 200), False), ((-99, 199), True), ((100, -199), False),
            ((3, 4, 9, 99), True), ((58, 338), False), ((1,) * 14, True), ((1,) * 15, False),
        ):
            goal = goal + (0,) * (40 - len(goal))
            if good:
                expected = math.factorial(sum(map(abs, goal)))
                for there in goal:
                    expected //= math.factorial(abs(there))
                self.assertEqual(count_schedules(free, start, goal), expected)
            else:
                self.assert_error(TooLarge(20000), count_schedules, free, start, goal)
        self.assertEqual(59 * 339, 20001)
        self.assert_error(TooLarge(20000), count_schedules, free, (-MOST,) * 40, (MOST,) * 40)

    def test_states_that_are_no_arrangements_count_for_the_limit(self):
        yard = (((0, 999), (0, 999)), ((0, 1, 0, 1),))
        self.assertEqual(count_schedules(yard, (0, 0), (140, 140)), 1)
        self.assertEqual(count_schedules(yard, (0, 0), (139, 140)), 1)
        self.assert_error(TooLarge(20000), count_schedules, yard, (0, 0), (141, 141))

    def test_errors_in_order(self):
        self.assert_yard_errors(count_schedules, [None, None])
        self.assert_arrangement_errors(count_schedules, [Y], [None])
        self.assert_arrangement_errors(count_schedules, [Y, (0, 1, 2)], [])

    def test_parameters_by_name(self):
        result = count_schedules(goal=(2, 3, 4), start=(0, 1, 2), yard=Y)
        self.assertEqual(result, 2)
        self.assertIs(type(result), int)


class ArgumentsTest(YardTestCase):
    def test_arguments_are_not_modified(self):
        for value in ([0, 1, 2], {0: [1]}, (0, [1], 2)):
            before = copy.deepcopy(value)
            with self.assertRaises(InvalidArrangement):
                number_of(Y, value)
            with self.assertRaises(InvalidPins):
                count_arrangements(Y, pins=value)
            with self.assertRaises(InvalidPins):
                next(arrangements(Y, pins=value))
            with self.assertRaises(InvalidNumber) as caught:
                arrangement_at(Y, value)
            self.assertIs(caught.exception.number, value)
            with self.assertRaises(InvalidYard):
                count_schedules(value, (0, 1, 2), (0, 1, 2))
            self.assertEqual(value, before)

    def test_equal_calls_have_equal_results(self):
        self.assertEqual(count_arrangements(FOREST), count_arrangements(FOREST))
        for _ in range(2):
            self.assertEqual(list(arrangements(Y, pins=((1, 1),))), [(0, 1, 2), (0, 1, 3)])


if __name__ == "__main__":
    unittest.main()
