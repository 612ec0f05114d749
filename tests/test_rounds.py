"""Section 6, section 2 for it, and the interface of coupledyard/rounds.py."""

import copy
import inspect
import itertools
import unittest

from coupledyard.arrangements import stretch
from coupledyard.errors import Blocked, InvalidArrangement, InvalidRounds, InvalidYard
from coupledyard.rounds import after_rounds, state_after, straight_rounds, straight_states
from tests.helpers import (
    BIG, MOST, OTHER_KINDS, SMALL_YARDS, Y, YardTestCase, all_arrangements, first_of,
)

FAR = (((-MOST, MOST),) * 3, ((0, 1, 1, 2), (1, 2, -MOST, MOST)))
FAR_START = (-MOST, 1 - MOST, MOST // 5 - MOST)
FAR_GOAL = (MOST - 2, MOST - 1, MOST // 10)

# Values that are not rounds of Y, one item of the tuple of rounds.
NO_ROUNDS = OTHER_KINDS + [
    [0, 0, 0], (0, 0), (0, 0, 0, 0), "000", (2, 0, 0), (0, -2, 0), (0, 0, BIG), (0, 0, -BIG),
    (True, 0, 0), (0, False, 0), (0, 0, None), ("1", 0, 0), ([0], 0, 0), (0, (0,), 0),
    {0: 0, 1: 0, 2: 0}, 0, 1, -1,
]


def plain_states(start, goal):
    """The states of the straight rounds, word by word as 6.2 tells it."""
    states = []
    places = start
    while places != goal:
        places = tuple(
            place + (there > place) - (there < place) for place, there in zip(places, goal))
        states.append(places)
    return states


def plain_rounds(start, goal):
    states = [start] + plain_states(start, goal)
    return [
        tuple(there - here for here, there in zip(one, two))
        for one, two in zip(states, states[1:])
    ]


class StraightRoundsTest(YardTestCase):
    def test_example(self):
        self.assertEqual(list(straight_rounds(Y, (0, 1, 2), (1, 3, 4))), [(1, 1, 1), (0, 1, 1)])
        self.assertEqual(list(straight_states(Y, (0, 2, 3), (0, 1, 2))), [(0, 1, 2)])

    def test_no_rounds(self):
        self.assertEqual(list(straight_rounds(Y, (0, 2, 4), (0, 2, 4))), [])
        self.assertEqual(list(straight_states(Y, (0, 2, 4), (0, 2, 4))), [])

    def test_both_directions(self):
        yard = (((0, 9), (-3, 3)), ())
        self.assertEqual(
            list(straight_rounds(yard, (2, 3), (4, -1))), [(1, -1), (1, -1), (0, -1), (0, -1)])
        self.assertEqual(
            list(straight_states(yard, (2, 3), (4, -1))), [(3, 2), (4, 1), (4, 0), (4, -1)])
        self.assertEqual(list(straight_rounds(yard, (4, 0), (3, 0))), [(-1, 0)])

    def test_one_wagon(self):
        yard = (((-2, 2),), ())
        self.assertEqual(list(straight_rounds(yard, (2,), (-1,))), [(-1,), (-1,), (-1,)])
        self.assertEqual(list(straight_states(yard, (2,), (-1,))), [(1,), (0,), (-1,)])

    def test_forty_wagons(self):
        yard = (((0, 99),) * 40, tuple((i, i + 1, -1, 1) for i in range(39)))
        start = (0,) * 40
        goal = tuple(range(40))
        rounds = list(straight_rounds(yard, start, goal))
        self.assertEqual(rounds, plain_rounds(start, goal))
        self.assertEqual(len(rounds), 39)
        self.assertEqual(after_rounds(yard, start, tuple(rounds)), goal)

    def test_every_pair(self):
        for yard in SMALL_YARDS:
            found = all_arrangements(yard)
            for start, goal in itertools.product(found, repeat=2):
                rounds = tuple(straight_rounds(yard, start, goal))
                states = list(straight_states(yard, start, goal))
                self.assertEqual(list(rounds), plain_rounds(start, goal))
                self.assertEqual(states, plain_states(start, goal))
                self.assertEqual(len(rounds), stretch(yard, start, goal))
                self.assertTrue(set(states) <= set(found))
                self.assertEqual(after_rounds(yard, start, rounds), goal)
                for count in range(len(rounds) + 2):
                    expected = ([start] + states)[min(count, len(rounds))]
                    self.assertEqual(state_after(yard, start, goal, count), expected)

    def test_first_ones_of_very_many(self):
        rounds = straight_rounds(FAR, FAR_START, FAR_GOAL)
        self.assertEqual(list(itertools.islice(rounds, 3)), [(1, 1, 1)] * 3)
        states = straight_states(FAR, FAR_GOAL, FAR_START)
        self.assertEqual(
            list(itertools.islice(states, 2)),
            [tuple(place - by for place in FAR_GOAL) for by in (1, 2)])

    def test_two_generators_in_turn(self):
        for one, two, expected in (
            (
                straight_rounds(Y, (0, 1, 2), (1, 3, 4)), straight_rounds(Y, (5, 6, 7), (4, 6, 8)),
                [(1, 1, 1), (-1, 0, 1), (0, 1, 1), None],
            ),
            (
                straight_states(Y, (0, 1, 2), (1, 3, 4)), straight_states(Y, (5, 6, 7), (4, 6, 8)),
                [(1, 2, 3), (4, 6, 8), (1, 3, 4), None],
            ),
        ):
            taken = [next(one, None), next(two, None), next(one, None), next(two, None)]
            self.assertEqual(taken, expected)

    def test_are_generators_of_plain_tuples(self):
        for function in (straight_rounds, straight_states):
            results = function(Y, (0, 1, 2), (1, 3, 4))
            self.assertTrue(inspect.isgenerator(results))
            self.assertEqual([type(result) for result in results], [tuple, tuple])

    def test_errors_in_order_with_the_first_request(self):
        for function in (first_of(straight_rounds), first_of(straight_states)):
            self.assert_yard_errors(function, [None, None])
            self.assert_arrangement_errors(function, [Y], [None])
            self.assert_arrangement_errors(function, [Y, (0, 1, 2)], [])

    def test_parameters_by_name(self):
        self.assertEqual(list(straight_rounds(goal=(0, 1, 3), start=(0, 1, 2), yard=Y)), [(0, 0, 1)])
        self.assertEqual(list(straight_states(goal=(0, 1, 3), start=(0, 1, 2), yard=Y)), [(0, 1, 3)])


class AfterRoundsTest(YardTestCase):
    def test_rounds(self):
        self.assertEqual(after_rounds(Y, (0, 1, 2), ()), (0, 1, 2))
        self.assertEqual(after_rounds(Y, (0, 1, 2), ((1, 1, 1),)), (1, 2, 3))
        self.assertEqual(after_rounds(Y, (0, 1, 2), ((1, 1, 1), (-1, 0, 1))), (0, 2, 4))
        self.assertEqual(after_rounds(Y, (0, 1, 2), ((0, 0, 0),)), (0, 1, 2))
        self.assertEqual(
            after_rounds(rounds=((0, 0, 1),), arrangement=(0, 1, 2), yard=Y), (0, 1, 3))

    def test_places_in_between_do_not_matter(self):
        # No wagon can make its step alone, before the others or after them.
        tight = (((0, 9), (0, 9)), ((0, 1, 0, 1),))
        self.assertEqual(after_rounds(tight, (0, 0), ((1, 1), (1, 1))), (2, 2))
        self.assertEqual(after_rounds(tight, (2, 3), ((-1, -1),)), (1, 2))
        self.assertEqual(after_rounds(Y, (0, 1, 2), ((1, 1, 1),) * 7), (7, 8, 9))

    def test_first_impossible_round(self):
        up, down, stay = (1, 1, 1), (-1, -1, -1), (0, 0, 0)
        for rounds, index in (
            ((down,), 0),
            ((up, down, down), 2),
            ((up,) * 8, 7),
            ((stay, (1, 0, 0), down), 1),
            ((stay, (0, 0, 1), (0, 0, 1), (0, 0, -1)), 2),
            ((up, stay, (0, 1, 0), down, down, down), 2),
            (((1, 0, 0), (-1, 0, 0)), 0),
        ):
            with self.subTest(rounds):
                self.assert_error(Blocked(index), after_rounds, Y, (0, 1, 2), rounds)

    def test_every_two_rounds(self):
        yard = SMALL_YARDS[4]
        found = all_arrangements(yard)
        rounds = list(itertools.product((-1, 0, 1), repeat=3))
        for pair in itertools.product(rounds, repeat=2):
            places = (1, 1, 0)
            blocked = None
            for index, changes in enumerate(pair):
                places = tuple(place + by for place, by in zip(places, changes))
                if places not in found:
                    blocked = index
                    break
            if blocked is None:
                self.assertEqual(after_rounds(yard, (1, 1, 0), pair), places)
            else:
                self.assert_error(Blocked(blocked), after_rounds, yard, (1, 1, 0), pair)

    def test_fewer_rounds_never_suffice(self):
        for yard in SMALL_YARDS[3:5]:
            start = all_arrangements(yard)[0]
            least = {start: 0}
            waiting = [start]
            rounds = list(itertools.product((-1, 0, 1), repeat=len(start)))
            for places in waiting:
                for changes in rounds:
                    try:
                        new = after_rounds(yard, places, (changes,))
                    except Blocked:
                        continue
                    if new not in least:
                        least[new] = least[places] + 1
                        waiting.append(new)
            for goal, count in least.items():
                self.assertEqual(sum(1 for _ in straight_rounds(yard, start, goal)), count)
            self.assertEqual(set(least), set(all_arrangements(yard)))

    def test_many_rounds(self):
        yard = (((0, 1),), ())
        rounds = ((1,), (-1,)) * 50000
        self.assertEqual(after_rounds(yard, (0,), rounds), (0,))
        self.assert_error(Blocked(99999), after_rounds, yard, (0,), rounds[:-1] + ((1,),))
        self.assert_error(InvalidRounds(99999), after_rounds, yard, (0,), rounds[:-1] + ((2,),))
        self.assert_error(InvalidRounds(None), after_rounds, yard, (0,), rounds + ((1,),))
        self.assert_error(InvalidRounds(None), after_rounds, yard, (0,), rounds + (None,))

    def test_values_that_are_no_rounds(self):
        values = [value for value in OTHER_KINDS if not isinstance(value, tuple)]
        for value in values + [[(0, 0, 0)], {(0, 0, 0): True}, "000", 3, BIG]:
            with self.subTest(value=str(value)[:60]):
                self.assert_error(InvalidRounds(None), after_rounds, Y, (0, 1, 2), value)

    def test_items_that_are_no_rounds(self):
        for value in NO_ROUNDS:
            with self.subTest(value=str(value)[:60]):
                self.assert_error(InvalidRounds(0), after_rounds, Y, (0, 1, 2), (value,))
                self.assert_error(
                    InvalidRounds(1), after_rounds, Y, (0, 1, 2), ((0, 0, 1), value, None))

    def test_a_round_is_not_a_tuple_of_rounds(self):
        self.assert_error(InvalidRounds(0), after_rounds, Y, (0, 1, 2), (1, 1, 1))

    def test_form_comes_before_impossible_rounds(self):
        rounds = ((-1, 0, 0), (1, 1, 1), (0, 0, 2))
        self.assert_error(InvalidRounds(2), after_rounds, Y, (0, 1, 2), rounds)

    def test_errors_in_order(self):
        self.assert_yard_errors(after_rounds, [None, None])
        self.assert_arrangement_errors(after_rounds, [Y], [None])


class StateAfterTest(YardTestCase):
    def test_counts(self):
        start, goal = (0, 1, 2), (3, 5, 6)
        for count, expected in (
            (0, (0, 1, 2)), (1, (1, 2, 3)), (3, (3, 4, 5)), (4, (3, 5, 6)), (5, (3, 5, 6)), (BIG, (3, 5, 6)),
        ):
            self.assertEqual(state_after(Y, start, goal, count), expected)
            self.assertEqual(state_after(count=count, goal=goal, start=start, yard=Y), expected)
        self.assertEqual(state_after(Y, start, start, 0), start)
        self.assertEqual(state_after(Y, start, start, 7), start)

    def test_very_great_counts(self):
        way = stretch(FAR, FAR_START, FAR_GOAL)
        self.assertEqual(way, 2 * MOST - 2)
        self.assertEqual(state_after(FAR, FAR_START, FAR_GOAL, 0), FAR_START)
        self.assertEqual(state_after(FAR, FAR_START, FAR_GOAL, MOST // 2), (
            -MOST // 2, 1 - MOST // 2, MOST // 5 - MOST // 2))
        self.assertEqual(state_after(FAR, FAR_START, FAR_GOAL, way - 1), (
            FAR_GOAL[0] - 1, FAR_GOAL[1] - 1, FAR_GOAL[2]))
        for count in (way, way + 1, MOST ** 9, BIG):
            self.assertEqual(state_after(FAR, FAR_START, FAR_GOAL, count), FAR_GOAL)
            self.assertEqual(state_after(FAR, FAR_GOAL, FAR_START, count), FAR_START)

    def test_errors_in_order(self):
        self.assert_yard_errors(state_after, [None, None, 0])
        self.assert_arrangement_errors(state_after, [Y], [None, 0])
        self.assert_arrangement_errors(state_after, [Y, (0, 1, 2)], [0])


class ArgumentsTest(YardTestCase):
    def test_arguments_are_not_modified(self):
        for value in ([(0, 0, 1)], ((0, 0, 1), [0, 1, 0]), {0: [1]}):
            before = copy.deepcopy(value)
            with self.assertRaises(InvalidRounds):
                after_rounds(Y, (0, 1, 2), value)
            with self.assertRaises(InvalidArrangement):
                state_after(Y, value, (0, 1, 2), 1)
            with self.assertRaises(InvalidYard):
                after_rounds(value, (0, 1, 2), ())
            self.assertEqual(value, before)

    def test_results_are_plain_tuples(self):
        self.assertIs(type(after_rounds(Y, (0, 1, 2), ((0, 0, 1),))), tuple)
        self.assertIs(type(state_after(Y, (0, 1, 2), (1, 2, 3), 1)), tuple)

    def test_equal_calls_have_equal_results(self):
        for _ in range(2):
            self.assertEqual(list(straight_rounds(Y, (0, 1, 2), (1, 3, 4))), [(1, 1, 1), (0, 1, 1)])


if __name__ == "__main__":
    unittest.main()
