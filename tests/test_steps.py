"""Section 5, section 2 for it, and the interface of coupledyard/steps.py."""

import copy
import inspect
import itertools
import unittest

from coupledyard import steps
from coupledyard.arrangements import is_arrangement
from coupledyard.errors import (
    Blocked, InvalidArrangement, InvalidSchedule, InvalidStep, InvalidYard, TooLarge,
)
from coupledyard.steps import (
    MOST_STEPS, after, is_possible, is_shortest, possible_steps, reason, schedule_to,
    states_along, steps_to,
)
from tests.helpers import (
    BIG, CHAIN, MOST, NO_ARRANGEMENTS, NO_STEPS, NO_YARDS, OTHER_KINDS, SMALL_YARDS, STAR, Y,
    YardTestCase, all_arrangements, all_steps, first_of, moved,
)


def plain_reason(yard, found, places, step):
    """The reason, word by word as 5.3 tells it; `found` are all arrangements."""
    wagon, sign = step
    if moved(places, step) in found:
        return None
    chain = ()
    while True:
        chain += (wagon,)
        if places[wagon] == yard[0][wagon][sign > 0]:
            return (chain, "wall")
        new = moved(places, (wagon, sign))
        if new in found:
            return (chain, "free")
        wagon = next(
            i + j - wagon for i, j, least, greatest in yard[1]
            if wagon in (i, j) and not least <= new[j] - new[i] <= greatest
        )


class Allowed:
    """All arrangements of a yard that has too many of them for a list."""

    def __init__(self, yard):
        self.yard = yard

    def __contains__(self, places):
        return is_arrangement(self.yard, places)


def plain_schedule(found, start, goal):
    """The standard schedule, word by word as 5.5 tells it; `found` are all arrangements."""
    made = []
    places = start
    for sign in (-1, 1):
        while any((place - there) * sign < 0 for place, there in zip(places, goal)):
            step = next(
                (wagon, sign) for wagon, there in enumerate(goal)
                if (places[wagon] - there) * sign < 0 and moved(places, (wagon, sign)) in found
            )
            places = moved(places, step)
            made.append(step)
    return tuple(made)


class PossibleStepsTest(YardTestCase):
    def test_example(self):
        self.assertEqual(possible_steps(Y, (0, 1, 2)), ((2, 1),))

    def test_ascending(self):
        self.assertEqual(possible_steps(Y, (3, 4, 6)), ((0, -1), (1, 1), (2, -1)))
        free = (((0, 9), (0, 9)), ())
        self.assertEqual(possible_steps(free, (5, 5)), ((0, -1), (0, 1), (1, -1), (1, 1)))
        self.assertEqual(possible_steps(free, (9, 0)), ((0, -1), (1, 1)))

    def test_one_wagon(self):
        yard = (((-2, 2),), ())
        self.assertEqual(possible_steps(yard, (-2,)), ((0, 1),))
        self.assertEqual(possible_steps(yard, (0,)), ((0, -1), (0, 1)))
        self.assertEqual(possible_steps(yard, (2,)), ((0, -1),))
        self.assertEqual(possible_steps((((4, 4),), ()), (4,)), ())

    def test_forty_wagons(self):
        self.assertEqual(possible_steps(STAR, (0,) * 40), tuple((j, 1) for j in range(1, 40)))
        self.assertEqual(possible_steps(STAR, (50,) * 40), ((0, -1),) + tuple((j, 1) for j in range(1, 40)))
        self.assertEqual(possible_steps(CHAIN, tuple(range(40))), ((39, 1),))
        self.assertEqual(possible_steps(CHAIN, tuple(range(1, 80, 2))), ((0, 1), (39, -1)))

    def test_every_arrangement(self):
        for yard in SMALL_YARDS:
            found = all_arrangements(yard)
            for places in found:
                expected = tuple(step for step in all_steps(yard) if moved(places, step) in found)
                self.assertEqual(possible_steps(yard, places), expected)
                for step in all_steps(yard):
                    self.assertIs(is_possible(yard, places, step), step in expected)

    def test_far_walls(self):
        yard = (((-MOST, MOST), (-MOST, MOST)), ((0, 1, -2 * MOST, 10 ** 10),))
        self.assertEqual(possible_steps(yard, (MOST, -MOST)), ((0, -1), (1, 1)))
        self.assertEqual(possible_steps(yard, (-MOST, MOST)), ((0, 1), (1, -1)))

    def test_errors_in_order(self):
        self.assert_yard_errors(possible_steps, [None])
        self.assert_arrangement_errors(possible_steps, [Y], [])

    def test_parameters_by_name(self):
        self.assertEqual(possible_steps(arrangement=(0, 1, 2), yard=Y), ((2, 1),))


class IsPossibleTest(YardTestCase):
    def test_steps(self):
        self.assertIs(is_possible(Y, (0, 1, 2), (2, 1)), True)
        self.assertIs(is_possible(Y, (0, 1, 2), (1, 1)), False)
        self.assertIs(is_possible(Y, (0, 1, 2), (2, -1)), False)
        self.assertIs(is_possible(step=(0, 1), arrangement=(0, 2, 3), yard=Y), True)

    def test_values_that_are_no_steps(self):
        for function in (is_possible, reason):
            for step in NO_STEPS:
                with self.subTest(step=str(step)[:60]):
                    self.assert_error(InvalidStep(step), function, Y, (0, 1, 2), step)

    def test_the_error_holds_the_very_step(self):
        step = [0, [1]]
        with self.assertRaises(InvalidStep) as caught:
            is_possible(Y, (0, 1, 2), step)
        self.assertIs(caught.exception.step, step)
        self.assertEqual(step, [0, [1]])

    def test_wagons_of_the_yard(self):
        self.assert_error(InvalidStep((1, 1)), is_possible, (((0, 1),), ()), (0,), (1, 1))
        self.assertIs(is_possible(STAR, (0,) * 40, (39, 1)), True)
        self.assert_error(InvalidStep((40, 1)), is_possible, STAR, (0,) * 40, (40, 1))

    def test_errors_in_order(self):
        for function in (is_possible, reason):
            self.assert_yard_errors(function, [None, None])
            self.assert_arrangement_errors(function, [Y], [None])


class ReasonTest(YardTestCase):
    def test_example(self):
        self.assertEqual(reason(Y, (0, 1, 2), (0, 1)), ((0, 1, 2), "free"))
        self.assertEqual(reason(Y, (7, 8, 9), (0, 1)), ((0, 1, 2), "wall"))
        self.assertIsNone(reason(Y, (0, 1, 2), (2, 1)))

    def test_one_wagon(self):
        yard = (((-2, 2),), ())
        self.assertEqual(reason(yard, (2,), (0, 1)), ((0,), "wall"))
        self.assertEqual(reason(yard, (-2,), (0, -1)), ((0,), "wall"))
        self.assertIsNone(reason(yard, (2,), (0, -1)))
        self.assertIsNone(reason(yard, (1,), (0, 1)))

    def test_both_directions(self):
        self.assertEqual(reason(Y, (3, 4, 5), (1, 1)), ((1, 2), "free"))
        self.assertEqual(reason(Y, (3, 4, 5), (1, -1)), ((1, 0), "free"))
        self.assertEqual(reason(Y, (3, 5, 7), (1, 1)), ((1, 0), "free"))
        self.assertEqual(reason(Y, (3, 5, 7), (1, -1)), ((1, 2), "free"))
        self.assertEqual(reason(Y, (0, 1, 2), (2, -1)), ((2, 1, 0), "wall"))

    def test_held_by_several(self):
        # Wagon 1 is held by both others; the coupling with the smaller index counts.
        yard = (((0, 9), (0, 9), (0, 9)), ((0, 1, 0, 2), (1, 2, 0, 2)))
        self.assertEqual(reason(yard, (3, 5, 5), (1, 1)), ((1, 0), "free"))
        self.assertEqual(reason(yard, (3, 3, 5), (1, -1)), ((1, 0), "free"))
        self.assertEqual(reason(STAR, (5,) + (10,) * 39, (0, -1)), ((0, 1), "free"))
        self.assertEqual(reason(STAR, (5,) + (9,) * 30 + (10,) * 9, (0, -1)), ((0, 31), "free"))
        self.assertEqual(reason(STAR, (5,) + (6,) * 38 + (5,), (0, 1)), ((0, 39), "free"))

    def test_smallest_index_and_not_smallest_wagon(self):
        yard = (((0, 9),) * 4, ((0, 3, 0, 2), (1, 2, 0, 2), (2, 3, 0, 2)))
        self.assertEqual(reason(yard, (3, 3, 3, 5), (3, 1)), ((3, 0), "free"))
        # Wagon 2 is held by coupling 1 with wagon 1 and by coupling 2 with wagon 3.
        self.assertEqual(reason(yard, (3, 3, 5, 5), (2, 1)), ((2, 1), "free"))

    def test_at_a_wall_and_held(self):
        yard = (((0, 9), (0, 5)), ((0, 1, 0, 2),))
        self.assertEqual(reason(yard, (3, 5), (1, 1)), ((1,), "wall"))
        self.assertEqual(reason(yard, (5, 5), (0, 1)), ((0, 1), "wall"))
        yard = (((3, 9), (0, 9)), ((0, 1, 0, 2),))
        self.assertEqual(reason(yard, (3, 3), (1, -1)), ((1, 0), "wall"))
        self.assertEqual(reason(yard, (3, 5), (0, -1)), ((0,), "wall"))

    def test_forty_wagons(self):
        all_of_them = tuple(range(40))
        self.assertEqual(reason(CHAIN, all_of_them, (0, 1)), (all_of_them, "free"))
        self.assertEqual(reason(CHAIN, all_of_them, (39, -1)), (all_of_them[::-1], "wall"))
        at_end = tuple(4961 + wagon for wagon in range(40))
        self.assertEqual(reason(CHAIN, at_end, (0, 1)), (all_of_them, "wall"))

    def test_every_step(self):
        for yard in SMALL_YARDS:
            found = all_arrangements(yard)
            for places in found:
                for step in all_steps(yard):
                    expected = plain_reason(yard, found, places, step)
                    self.assertEqual(reason(yard, places, step), expected)
                    if expected is not None and expected[1] == "wall":
                        # 5.3: no arrangement has the wagon farther in this direction.
                        wagon, sign = step
                        farthest = max(other[wagon] * sign for other in found)
                        self.assertEqual(places[wagon] * sign, farthest)

    def test_kinds_of_values(self):
        chain, word = reason(Y, (0, 1, 2), (0, 1))
        self.assertIs(type(chain), tuple)
        self.assertIs(type(word), str)
        self.assertEqual(reason(step=(0, 1), arrangement=(0, 1, 2), yard=Y), (chain, word))


class AfterTest(YardTestCase):
    def test_example(self):
        self.assertEqual(after(Y, (0, 1, 2), ((2, 1), (1, 1))), (0, 2, 3))
        self.assertEqual(list(states_along(Y, (0, 1, 2), ((2, 1), (2, -1)))), [(0, 1, 3), (0, 1, 2)])
        self.assert_error(Blocked(1), after, Y, (0, 1, 2), ((2, 1), (0, 1)))

    def test_no_steps(self):
        self.assertEqual(after(Y, (0, 1, 2), ()), (0, 1, 2))
        self.assertEqual(list(states_along(Y, (0, 1, 2), ())), [])

    def test_blocked_steps(self):
        there = ((2, 1), (1, 1), (0, 1))
        self.assertEqual(after(Y, (0, 1, 2), there), (1, 2, 3))
        for schedule, index in (
            (((0, 1),) + there, 0),
            (there[:1] + ((0, 1),) + there[1:], 1),
            (there[:2] + ((2, -1),) + there[2:], 2),
            (there + ((2, -1),), 3),
            (((0, -1),), 0),
        ):
            self.assert_error(Blocked(index), after, Y, (0, 1, 2), schedule)
            states = states_along(Y, (0, 1, 2), schedule)
            places = (0, 1, 2)
            for step in schedule[:index]:
                places = moved(places, step)
                self.assertEqual(next(states), places)
            self.assert_error(Blocked(index), next, states)

    def test_the_first_of_several_blocked_steps(self):
        self.assert_error(Blocked(0), after, Y, (0, 1, 2), ((0, 1), (0, -1), (1, 1)))

    def test_states_before_the_blocked_step_without_the_rest(self):
        states = states_along(Y, (0, 1, 2), ((2, 1), (0, 1), (1, 1)))
        self.assertEqual(list(itertools.islice(states, 1)), [(0, 1, 3)])

    def test_every_schedule_of_three_steps(self):
        yard = SMALL_YARDS[4]
        found = all_arrangements(yard)
        for schedule in itertools.product(all_steps(yard), repeat=3):
            states = [(1, 1, 0)]
            for step in schedule:
                if moved(states[-1], step) not in found:
                    break
                states.append(moved(states[-1], step))
            if len(states) == 4:
                self.assertEqual(list(states_along(yard, states[0], schedule)), states[1:])
                self.assertEqual(after(yard, states[0], schedule), states[-1])
            else:
                self.assert_error(Blocked(len(states) - 1), after, yard, states[0], schedule)

    def test_two_generators_in_turn(self):
        one = states_along(Y, (0, 1, 2), ((2, 1), (1, 1)))
        two = states_along(Y, (5, 6, 7), ((2, 1), (2, -1)))
        self.assertEqual(
            [next(one), next(two), next(one), next(two)],
            [(0, 1, 3), (5, 6, 8), (0, 2, 3), (5, 6, 7)],
        )

    def test_many_steps(self):
        yard = (((0, 1),), ())
        schedule = ((0, 1), (0, -1)) * 50000
        self.assertEqual(len(schedule), MOST_STEPS)
        self.assertEqual(after(yard, (0,), schedule), (0,))
        self.assertEqual(sum(1 for _ in states_along(yard, (0,), schedule)), MOST_STEPS)
        self.assert_error(Blocked(MOST_STEPS - 1), after, yard, (0,), schedule[:-1] + ((0, 1),))
        for function in (after, first_of(states_along), is_shortest):
            self.assert_error(InvalidSchedule(None), function, yard, (0,), schedule + ((0, 1),))
            self.assert_error(InvalidSchedule(None), function, yard, (0,), schedule + (None,))
            self.assert_error(InvalidSchedule(99999), function, yard, (0,), schedule[:-1] + (None,))

    def test_results_are_plain_tuples(self):
        self.assertIs(type(after(Y, (0, 1, 2), ((2, 1),))), tuple)
        states = list(states_along(Y, (0, 1, 2), ((2, 1), (1, 1))))
        self.assertEqual([type(state) for state in states], [tuple, tuple])

    def test_parameters_by_name(self):
        self.assertEqual(after(schedule=((2, 1),), arrangement=(0, 1, 2), yard=Y), (0, 1, 3))
        states = states_along(schedule=((2, 1),), arrangement=(0, 1, 2), yard=Y)
        self.assertEqual(list(states), [(0, 1, 3)])


class ScheduleErrorsTest(YardTestCase):
    FUNCTIONS = (after, first_of(states_along), is_shortest)

    def test_values_that_are_no_schedules(self):
        values = [value for value in OTHER_KINDS if not isinstance(value, tuple)]
        for function in self.FUNCTIONS:
            for value in values + [[(2, 1)], {(2, 1): True}, "((2, 1),)", 3, BIG]:
                with self.subTest(value=str(value)[:60]):
                    self.assert_error(InvalidSchedule(None), function, Y, (0, 1, 2), value)

    def test_items_that_are_no_steps(self):
        for function in self.FUNCTIONS:
            for step in NO_STEPS:
                with self.subTest(step=str(step)[:60]):
                    self.assert_error(InvalidSchedule(0), function, Y, (0, 1, 2), (step,))
                    self.assert_error(
                        InvalidSchedule(1), function, Y, (0, 1, 2), ((2, 1), step, None))

    def test_a_step_is_no_schedule(self):
        for function in self.FUNCTIONS:
            self.assert_error(InvalidSchedule(0), function, Y, (0, 1, 2), (2, 1))

    def test_form_comes_before_blocked_steps(self):
        for function in self.FUNCTIONS:
            self.assert_error(InvalidSchedule(2), function, Y, (0, 1, 2), ((0, 1), (0, 1), (3, 1)))

    def test_errors_in_order(self):
        for function in self.FUNCTIONS:
            self.assert_yard_errors(function, [None, None])
            self.assert_arrangement_errors(function, [Y], [None])

    def test_errors_with_the_first_request(self):
        self.assert_error(InvalidSchedule(None), first_of(states_along), Y, (0, 1, 2), None)
        self.assert_error(InvalidYard("form", None), first_of(states_along), None, (0, 1, 2), ())
        self.assert_error(
            InvalidArrangement("couplings", 1), first_of(states_along), Y, (0, 1, 4), ())


class StepsToTest(YardTestCase):
    def test_example(self):
        self.assertEqual(schedule_to(Y, (0, 1, 2), (1, 2, 3)), ((2, 1), (1, 1), (0, 1)))

    def test_backwards_forwards_both_and_none(self):
        self.assertEqual(schedule_to(Y, (1, 2, 3), (0, 1, 2)), ((0, -1), (1, -1), (2, -1)))
        self.assertEqual(schedule_to(Y, (0, 2, 4), (2, 3, 5)), ((0, 1), (1, 1), (0, 1), (2, 1)))
        self.assertEqual(schedule_to(Y, (2, 3, 4), (1, 3, 5)), ((0, -1), (2, 1)))
        self.assertEqual(schedule_to(Y, (1, 3, 5), (2, 3, 4)), ((2, -1), (0, 1)))
        self.assertEqual(schedule_to(Y, (1, 3, 5), (1, 3, 5)), ())
        self.assertEqual(list(steps_to(Y, (1, 3, 5), (1, 3, 5))), [])

    def test_the_smallest_wagon_first(self):
        free = (((0, 9), (0, 9)), ())
        self.assertEqual(
            schedule_to(free, (3, 4), (1, 3)), ((0, -1), (0, -1), (1, -1)))
        self.assertEqual(
            schedule_to(free, (1, 6), (2, 4)), ((1, -1), (1, -1), (0, 1)))

    def test_every_pair(self):
        for yard in SMALL_YARDS:
            found = all_arrangements(yard)[::2]
            everything = set(all_arrangements(yard))
            for start, goal in itertools.product(found, repeat=2):
                schedule = schedule_to(yard, start, goal)
                self.assertEqual(schedule, plain_schedule(everything, start, goal))
                self.assertEqual(list(steps_to(yard, start, goal)), list(schedule))
                self.assertEqual(after(yard, start, schedule), goal)
                self.assertIs(is_shortest(yard, start, schedule), True)

    def test_forty_wagons(self):
        start = tuple(range(40))
        goal = tuple(place + 3 for place in start)
        one = tuple((wagon, 1) for wagon in range(39, -1, -1))
        schedule = schedule_to(CHAIN, start, goal)
        self.assertEqual(len(schedule), 120)
        self.assertEqual(schedule[:39], one[:39])
        self.assertEqual(after(CHAIN, start, schedule), goal)
        back = schedule_to(CHAIN, goal, start)
        self.assertEqual(back[:6], ((0, -1), (1, -1), (0, -1), (2, -1), (1, -1), (0, -1)))
        self.assertEqual(back, plain_schedule(Allowed(CHAIN), goal, start))
        # Some wagons go back and some go forwards.
        near = (50,) + tuple(50 + j % 4 for j in range(1, 40))
        far = (48,) + tuple(52 - j % 3 for j in range(1, 40))
        self.assertEqual(schedule_to(STAR, near, far), plain_schedule(Allowed(STAR), near, far))
        self.assertEqual(schedule_to(STAR, far, near), plain_schedule(Allowed(STAR), far, near))

    def test_greatest_distance(self):
        yard = (((0, MOST), (-MOST, 0)), ())
        schedule = schedule_to(yard, (0, 0), (60000, -40000))
        self.assertEqual(schedule, ((1, -1),) * 40000 + ((0, 1),) * 60000)
        self.assert_error(TooLarge(100000), schedule_to, yard, (0, 0), (60000, -40001))
        self.assert_error(TooLarge(100000), schedule_to, yard, (MOST, 0), (0, -MOST))
        start = tuple(range(40))
        goal = tuple(place + 2500 for place in start)
        schedule = schedule_to(CHAIN, start, goal)
        self.assertEqual(len(schedule), 100000)
        self.assertEqual(after(CHAIN, start, schedule), goal)
        farther = goal[:-1] + (goal[-1] + 1,)
        self.assert_error(TooLarge(100000), schedule_to, CHAIN, start, farther)
        self.assertEqual(sum(1 for _ in steps_to(CHAIN, start, farther)), 100001)

    def test_first_steps_of_very_many(self):
        yard = (((-MOST, MOST),) * 3, ((0, 1, 1, 2), (1, 2, 1, 2)))
        steps_there = steps_to(yard, (-MOST, 1 - MOST, 2 - MOST), (MOST - 2, MOST - 1, MOST))
        self.assertEqual(
            list(itertools.islice(steps_there, 6)),
            [(2, 1), (1, 1), (0, 1), (2, 1), (1, 1), (0, 1)])
        steps_back = steps_to(yard, (MOST - 2, MOST - 1, MOST), (-MOST, 1 - MOST, 2 - MOST))
        self.assertEqual(list(itertools.islice(steps_back, 4)), [(0, -1), (1, -1), (0, -1), (2, -1)])

    def test_two_generators_in_turn(self):
        one = steps_to(Y, (0, 1, 2), (1, 2, 3))
        two = steps_to(Y, (1, 2, 3), (0, 1, 2))
        taken = [(next(one), next(two)) for _ in range(3)]
        self.assertEqual(taken, [((2, 1), (0, -1)), ((1, 1), (1, -1)), ((0, 1), (2, -1))])
        self.assertEqual((next(one, None), next(two, None)), (None, None))

    def test_is_a_generator(self):
        self.assertTrue(inspect.isgenerator(steps_to(Y, (0, 1, 2), (1, 2, 3))))
        self.assertTrue(inspect.isgenerator(states_along(Y, (0, 1, 2), ())))

    def test_errors_in_order(self):
        for function in (first_of(steps_to), schedule_to):
            self.assert_yard_errors(function, [None, None])
            self.assert_arrangement_errors(function, [Y], [None])
            self.assert_arrangement_errors(function, [Y, (0, 1, 2)], [])

    def test_parameters_by_name(self):
        expected = ((2, 1), (1, 1), (0, 1))
        self.assertEqual(schedule_to(goal=(1, 2, 3), start=(0, 1, 2), yard=Y), expected)
        self.assertEqual(tuple(steps_to(goal=(1, 2, 3), start=(0, 1, 2), yard=Y)), expected)


class IsShortestTest(YardTestCase):
    def test_schedules(self):
        for schedule, expected in (
            ((), True),
            (((2, 1),), True),
            (((2, 1), (1, 1), (0, 1)), True),
            (((2, 1), (1, 1), (2, 1)), True),
            (((2, 1), (2, -1)), False),
            (((2, 1), (1, 1), (2, 1), (2, -1)), False),
            (((0, 1),), False),
            (((2, 1), (0, 1)), False),
            (((2, 1), (1, 1), (0, 1), (2, -1)), False),
        ):
            with self.subTest(schedule):
                self.assertIs(is_shortest(Y, (0, 1, 2), schedule), expected)
        self.assertIs(is_shortest(schedule=((2, 1),), arrangement=(0, 1, 2), yard=Y), True)

    def test_opposite_directions_of_two_wagons(self):
        self.assertIs(is_shortest(Y, (2, 3, 4), ((0, -1), (2, 1))), True)

    def test_every_short_schedule(self):
        yard = SMALL_YARDS[6]
        start = (3, 3, 3)
        least = {start: 0}
        for schedule in itertools.chain.from_iterable(
            itertools.product(all_steps(yard), repeat=count) for count in range(5)
        ):
            try:
                last = after(yard, start, schedule)
            except Blocked:
                self.assertIs(is_shortest(yard, start, schedule), False)
                continue
            least.setdefault(last, len(schedule))
            self.assertIs(is_shortest(yard, start, schedule), len(schedule) == least[last])

    def test_many_steps(self):
        yard = (((0, MOST),), ())
        schedule = ((0, 1),) * MOST_STEPS
        self.assertIs(is_shortest(yard, (0,), schedule), True)
        self.assertIs(is_shortest(yard, (0,), schedule[:-1] + ((0, -1),)), False)
        self.assertIs(is_shortest((((0, MOST_STEPS - 1),), ()), (0,), schedule), False)


class DistanceTest(YardTestCase):
    def test_least_number_of_steps(self):
        for yard in SMALL_YARDS[3:5]:
            found = all_arrangements(yard)
            start = found[0]
            least = {start: 0}
            waiting = [start]
            for places in waiting:
                for step in possible_steps(yard, places):
                    new = moved(places, step)
                    if new not in least:
                        least[new] = least[places] + 1
                        waiting.append(new)
            self.assertEqual(set(least), set(found))
            for goal in found:
                self.assertEqual(len(schedule_to(yard, start, goal)), least[goal])


class ArgumentsTest(YardTestCase):
    def test_constant(self):
        self.assertEqual(steps.MOST_STEPS, 100000)
        self.assertIs(type(steps.MOST_STEPS), int)

    def test_arguments_are_not_modified(self):
        for value in ([(2, 1)], ((2, 1), [0, 1]), {0: [1]}):
            before = copy.deepcopy(value)
            with self.assertRaises(InvalidSchedule):
                after(Y, (0, 1, 2), value)
            with self.assertRaises(InvalidArrangement):
                possible_steps(Y, value)
            self.assertEqual(value, before)

    def test_generators_do_not_change_each_other(self):
        schedule = ((2, 1), (1, 1))
        self.assertEqual(list(states_along(Y, (0, 1, 2), schedule)), list(states_along(Y, (0, 1, 2), schedule)))

    def test_there_are_wrong_values(self):
        self.assertGreater(len(NO_YARDS), len(OTHER_KINDS))
        self.assertGreater(len(NO_ARRANGEMENTS), len(OTHER_KINDS))


if __name__ == "__main__":
    unittest.main()
