"""Section 10, section 2 for it, and the interface of coupledyard/precedence.py."""

import copy
import functools
import inspect
import itertools
import random
import unittest

from coupledyard import precedence
from coupledyard.arrangements import distance, is_arrangement
from coupledyard.drags import dragged
from coupledyard.errors import InvalidArrangement, InvalidDurations, InvalidYard, TooLarge
from coupledyard.precedence import critical_chain, ends, events, finish, is_order, predecessors
from coupledyard.steps import is_shortest, schedule_to
from tests.helpers import (
    BIG, CHAIN, MOST, OTHER_KINDS, SMALL_YARDS, STAR, Y, YardTestCase, all_arrangements,
    first_of,
)

NO_DURATIONS = OTHER_KINDS + [0, -1, 1000001, BIG, -BIG, "1", (1,), [1]]
NARROW = (((0, 9), (0, 9)), ((0, 1, 0, 1),))


def sign_of(start, goal, wagon):
    return (goal[wagon] > start[wagon]) - (goal[wagon] < start[wagon])


def plain_events(start, goal):
    return [
        (wagon, count + 1) for wagon, (here, there) in enumerate(zip(start, goal))
        for count in range(abs(there - here))
    ]


def plain_predecessors(yard, start, goal, event):
    """Move the other wagon of each coupling place by place until the coupling allows it."""
    wagon, count = event
    sign = sign_of(start, goal, wagon)
    place = start[wagon] + sign * count
    found = [(wagon, count - 1)] if count > 1 else []
    for i, j, least, greatest in yard[1]:
        if wagon in (i, j):
            other = i + j - wagon
            steps = 0
            while True:
                there = start[other] + sign * steps
                difference = there - place if wagon == i else place - there
                # Only the bound counts that a step of the wagon comes nearer to.
                bound = (difference < least) if (sign > 0) == (wagon == i) else (difference > greatest)
                if not bound:
                    break
                steps += 1
            if steps > 0:
                found.append((other, steps))
    return tuple(sorted(found))


def plain_plan(yard, start, goal, durations):
    """Begin and end of every event, told as in 10.4."""
    before = {event: plain_predecessors(yard, start, goal, event) for event in plain_events(start, goal)}
    plan = {}
    while len(plan) < len(before):
        for event, needed in before.items():
            if event not in plan and all(other in plan for other in needed):
                begin = max([plan[other][1] for other in needed], default=0)
                plan[event] = (begin, begin + durations[event[0]])
    return before, plan


def plain_chains(yard, start, goal, durations):
    """All critical chains, told as in 10.5."""
    before, plan = plain_plan(yard, start, goal, durations)
    last = max([end for _, end in plan.values()], default=0)
    if last == 0:
        return [()]
    chains = [(event,) for event in plan if not before[event]]
    found = []
    while chains:
        longer = []
        for chain in chains:
            end = plan[chain[-1]][1]
            if end == last:
                found.append(chain)
            longer += [
                chain + (event,) for event in plan
                if chain[-1] in before[event] and plan[event][0] == end
            ]
        chains = longer
    return found


def steps_of(start, goal, order):
    return tuple((wagon, sign_of(start, goal, wagon)) for wagon, _ in order)


def pairs_of_small_yards(step):
    for yard in SMALL_YARDS:
        found = all_arrangements(yard)
        yield from ((yard, start, goal) for start, goal in list(itertools.product(found, repeat=2))[::step])


class EventsTest(YardTestCase):
    def test_events(self):
        self.assertEqual(list(events(Y, (0, 1, 2), (1, 2, 3))), [(0, 1), (1, 1), (2, 1)])
        self.assertEqual(list(events(Y, (0, 1, 3), (2, 3, 4))), [(0, 1), (0, 2), (1, 1), (1, 2), (2, 1)])
        self.assertEqual(list(events(Y, (2, 3, 4), (0, 2, 4))), [(0, 1), (0, 2), (1, 1)])
        self.assertEqual(list(events(Y, (0, 2, 4), (0, 2, 4))), [])
        self.assertEqual(list(events((((-2, 2),), ()), (2,), (-2,))), [(0, k) for k in (1, 2, 3, 4)])

    def test_every_pair(self):
        for yard, start, goal in pairs_of_small_yards(7):
            self.assertEqual(list(events(yard, start, goal)), plain_events(start, goal))

    def test_is_a_generator_of_tuples(self):
        results = events(Y, (0, 1, 2), (1, 2, 3))
        self.assertTrue(inspect.isgenerator(results))
        self.assertEqual([type(event) for event in results], [tuple] * 3)

    def test_two_generators_in_turn(self):
        one = events(Y, (0, 1, 2), (1, 2, 3))
        two = events(Y, (2, 3, 4), (0, 2, 4))
        taken = [next(one), next(two), next(one), next(two), next(one), next(two)]
        self.assertEqual(taken, [(0, 1), (0, 1), (1, 1), (0, 2), (2, 1), (1, 1)])
        self.assertEqual((next(one, None), next(two, None)), (None, None))


class PredecessorsTest(YardTestCase):
    def test_example(self):
        self.assertEqual(
            list(predecessors(Y, (0, 1, 2), (1, 2, 3))),
            [((0, 1), ((1, 1),)), ((1, 1), ((2, 1),)), ((2, 1), ())])

    def test_backwards(self):
        self.assertEqual(
            list(predecessors(Y, (1, 2, 3), (0, 1, 2))),
            [((0, 1), ()), ((1, 1), ((0, 1),)), ((2, 1), ((1, 1),))])

    def test_no_events(self):
        self.assertEqual(list(predecessors(Y, (0, 2, 4), (0, 2, 4))), [])

    def test_opposite_directions_and_wagons_that_stay(self):
        self.assertEqual(
            list(predecessors(NARROW, (3, 3), (2, 3))), [((0, 1), ())])
        yard = (((0, 9), (0, 9)), ((0, 1, -2, 2),))
        self.assertEqual(
            list(predecessors(yard, (3, 5), (5, 3))),
            [((0, 1), ()), ((0, 2), ((0, 1),)), ((1, 1), ()), ((1, 2), ((1, 1),))])

    def test_several_predecessors_ascend(self):
        # Wagon 1 needs a step of wagon 0, its own last one, and a step of wagon 2.
        yard = (((0, 9),) * 3, ((0, 1, 0, 1), (1, 2, 0, 1)))
        self.assertEqual(
            list(predecessors(yard, (0, 1, 1), (2, 3, 3))),
            [
                ((0, 1), ()), ((0, 2), ((0, 1), (1, 1))),
                ((1, 1), ((0, 1), (2, 1))), ((1, 2), ((0, 2), (1, 1), (2, 2))),
                ((2, 1), ()), ((2, 2), ((1, 1), (2, 1))),
            ])

    def test_every_pair(self):
        for yard, start, goal in pairs_of_small_yards(3):
            expected = [
                (event, plain_predecessors(yard, start, goal, event))
                for event in plain_events(start, goal)
            ]
            self.assertEqual(list(predecessors(yard, start, goal)), expected)

    def test_forty_wagons(self):
        for seed in range(12):
            yard, start, goal = drawn_pair(seed)
            expected = [
                (event, plain_predecessors(yard, start, goal, event))
                for event in plain_events(start, goal)
            ]
            self.assertEqual(list(predecessors(yard, start, goal)), expected)
        expected = [((wagon, 1), ((wagon + 1, 1),)) for wagon in range(39)] + [((39, 1), ())]
        close = tuple(range(40))
        self.assertEqual(list(predecessors(CHAIN, close, tuple(range(1, 41)))), expected)
        found = list(predecessors(STAR, (50,) * 40, (51,) * 40))
        self.assertEqual(found[0], ((0, 1), tuple((wagon, 1) for wagon in range(1, 40))))
        self.assertEqual(found[1:], [((wagon, 1), ()) for wagon in range(1, 40)])

    def test_is_a_generator_of_tuples(self):
        results = predecessors(Y, (0, 1, 2), (2, 3, 4))
        self.assertTrue(inspect.isgenerator(results))
        for pair in results:
            self.assertEqual([type(pair)] + [type(item) for item in pair], [tuple] * 3)

    def test_two_generators_in_turn(self):
        one = predecessors(Y, (0, 1, 2), (1, 2, 3))
        two = predecessors(Y, (1, 2, 3), (0, 1, 2))
        taken = [(next(one), next(two)) for _ in range(3)]
        self.assertEqual(taken, [
            (((0, 1), ((1, 1),)), ((0, 1), ())), (((1, 1), ((2, 1),)), ((1, 1), ((0, 1),))),
            (((2, 1), ()), ((2, 1), ((1, 1),))),
        ])


def drawn_pair(seed):
    """A yard of 40 wagons and two arrangements, as the seed says."""
    draw = random.Random(seed)
    start = tuple(draw.randint(-30, 30) for _ in range(40))
    couplings = []
    for j in range(1, 40):
        i = draw.randrange(max(0, j - 5), j)
        least = start[j] - start[i] - draw.randint(0, 3)
        couplings.append((i, j, least, max(least + 1, start[j] - start[i] + draw.randint(0, 3))))
    yard = (((-1000, 1000),) * 40, tuple(sorted(couplings)))
    goal = start
    for _ in range(10):
        wagon = draw.randrange(40)
        new = dragged(yard, goal, wagon, goal[wagon] + draw.randint(-15, 15))
        if distance(yard, start, new) <= 600:
            goal = new
    return yard, start, goal


class IsOrderTest(YardTestCase):
    ORDER = ((2, 1), (1, 1), (0, 1), (2, 2), (1, 2), (0, 2))

    def assert_order(self, expected, value):
        self.assertIs(is_order(Y, (0, 1, 2), (2, 3, 4), value), expected)

    def test_orders(self):
        self.assert_order(True, self.ORDER)
        self.assert_order(True, ((2, 1), (1, 1), (2, 2), (0, 1), (1, 2), (0, 2)))
        self.assert_order(False, ((2, 1), (1, 1), (2, 2), (1, 2), (0, 1), (0, 2)))
        self.assertIs(is_order(Y, (0, 1, 2), (0, 1, 2), ()), True)
        self.assertIs(is_order(value=(), goal=(0, 1, 2), start=(0, 1, 2), yard=Y), True)
        self.assertIs(is_order(Y, (0, 1, 2), (0, 1, 3), ()), False)
        self.assertIs(is_order(Y, (0, 1, 2), (0, 1, 2), ((0, 1),)), False)

    def test_two_exchanged(self):
        for k, other in itertools.combinations(range(6), 2):
            value = list(self.ORDER)
            value[k], value[other] = value[other], value[k]
            steps = steps_of((0, 1, 2), (2, 3, 4), value)
            right = value == list(numbered(steps)) and is_shortest(Y, (0, 1, 2), steps)
            self.assert_order(right, tuple(value))

    def test_left_out_repeated_and_replaced(self):
        for k in range(6):
            self.assert_order(False, self.ORDER[:k] + self.ORDER[k + 1:])
            for event in self.ORDER:
                self.assert_order(False, self.ORDER[:k] + (event,) + self.ORDER[k:])
                if event != self.ORDER[k]:
                    self.assert_order(False, self.ORDER[:k] + (event,) + self.ORDER[k + 1:])
            for event in ((0, 3), (2, 3), (0, 0), (0, -1), (3, 1), (-1, 1), (-3, 1), (BIG, 1), (0, BIG)):
                self.assert_order(False, self.ORDER[:k] + (event,) + self.ORDER[k + 1:])

    def test_every_sequence(self):
        for yard, start, goal in (
            (Y, (0, 1, 3), (1, 3, 4)), (Y, (2, 3, 5), (1, 2, 3)), (Y, (2, 4, 5), (1, 3, 5)),
            (SMALL_YARDS[4], (1, 0, 0), (2, 2, 1)), (SMALL_YARDS[6], (2, 3, 3), (3, 2, 5)),
            (SMALL_YARDS[5], (1, 1, 0, 1), (2, 2, 2, 2)), (((((0, 9),) * 2), ()), (1, 2), (3, 0)),
        ):
            self.assertTrue(is_arrangement(yard, start) and is_arrangement(yard, goal))
            every = plain_events(start, goal)
            for order in itertools.permutations(every):
                # 10.3: a shortest schedule, in which each wagon's events come in order.
                expected = is_shortest(yard, start, steps_of(start, goal, order)) and all(
                    [k for v, k in order if v == wagon] == sorted(k for v, k in order if v == wagon)
                    for wagon in range(len(start)))
                self.assertIs(is_order(yard, start, goal, order), expected)

    def test_standard_schedules(self):
        for seed in range(12):
            yard, start, goal = drawn_pair(seed)
            order = tuple(numbered(schedule_to(yard, start, goal)))
            self.assertIs(is_order(yard, start, goal, order), True)
            self.assertIs(is_order(yard, start, goal, order[::-1]), len(order) <= 1)

    def test_values_of_every_kind(self):
        for value in OTHER_KINDS + [
            list(self.ORDER), dict(self.ORDER), "012345", 6, BIG, (None,) * 6, (0,) * 6, ((),) * 6,
            ((2, 1),) * 6, ((0, 1, 2),) * 6, tuple(reversed(self.ORDER)), (0,) * 400000,
        ]:
            with self.subTest(value=str(value)[:60]):
                self.assert_order(False, value)

    def test_events_of_other_kinds(self):
        for k, (wagon, count) in enumerate(self.ORDER):
            for value in OTHER_KINDS + [
                [wagon, count], (wagon, count, 1), (wagon,), (str(wagon), count), (wagon, str(count)),
                (None, count), (wagon, None), ((wagon,), count), (wagon, [count]), {wagon: count}, wagon,
            ]:
                self.assert_order(False, self.ORDER[:k] + (value,) + self.ORDER[k + 1:])
            if count == 1:
                self.assert_order(False, self.ORDER[:k] + ((wagon, True),) + self.ORDER[k + 1:])
            if wagon < 2:
                self.assert_order(False, self.ORDER[:k] + ((bool(wagon), count),) + self.ORDER[k + 1:])

    def test_wrong_values_are_not_modified(self):
        value = ([2, 1], [[1]], {0: [1]}, None, None, None)
        before = copy.deepcopy(value)
        self.assert_order(False, value)
        self.assertEqual(value, before)


def numbered(schedule):
    counts = {}
    for wagon, _ in schedule:
        counts[wagon] = counts.get(wagon, 0) + 1
        yield (wagon, counts[wagon])


class PlanTest(YardTestCase):
    def assert_plan(self, yard, start, goal, *durations):
        """Assert all three functions against the plain plan and all critical chains."""
        paces = durations or (1,) * len(start)
        _, plan = plain_plan(yard, start, goal, paces)
        times = tuple(
            tuple(plan[event][1] for event in plain_events(start, goal) if event[0] == wagon)
            for wagon in range(len(start)))
        self.assertEqual(ends(yard, start, goal, *durations), times)
        last = max([end for _, end in plan.values()], default=0)
        self.assertEqual(finish(yard, start, goal, *durations), last)
        self.assertEqual(
            critical_chain(yard, start, goal, *durations),
            min(plain_chains(yard, start, goal, paces)))

    def test_example(self):
        self.assertEqual(ends(Y, (0, 1, 2), (1, 2, 3)), ((3,), (2,), (1,)))
        self.assertEqual(finish(Y, (0, 1, 2), (1, 2, 3), 5, 1, 1), 7)
        self.assertEqual(critical_chain(Y, (0, 1, 2), (1, 2, 3)), ((2, 1), (1, 1), (0, 1)))

    def test_no_events(self):
        for durations in ((), (1, 1, 1), (7, 1000000, 1)):
            self.assertEqual(ends(Y, (0, 2, 4), (0, 2, 4), *durations), ((), (), ()))
            self.assertEqual(finish(Y, (0, 2, 4), (0, 2, 4), *durations), 0)
            self.assertEqual(critical_chain(Y, (0, 2, 4), (0, 2, 4), *durations), ())

    def test_one_wagon(self):
        yard = (((-2, 2),), ())
        self.assertEqual(ends(yard, (2,), (-1,)), ((1, 2, 3),))
        self.assertEqual(ends(yard, (2,), (-1,), 1000000), ((1000000, 2000000, 3000000),))
        self.assertEqual(critical_chain(yard, (2,), (-1,), 5), ((0, 1), (0, 2), (0, 3)))
        self.assertEqual(finish(yard, (2,), (-1,), 5), 15)

    def test_several_critical_chains(self):
        free = (((0, 9), (0, 9), (0, 9)), ())
        self.assertEqual(critical_chain(free, (0, 0, 0), (2, 2, 2)), ((0, 1), (0, 2)))
        self.assertEqual(critical_chain(free, (0, 0, 0), (2, 2, 2), 1, 3, 3), ((1, 1), (1, 2)))
        self.assertEqual(critical_chain(free, (0, 0, 0), (1, 2, 1), 2, 1, 2), ((0, 1),))
        # A later wagon with an earlier event comes behind.
        self.assertEqual(critical_chain(free, (0, 0, 0), (1, 2, 3), 6, 3, 2), ((0, 1),))
        star = (((0, 9), (0, 9), (0, 9)), ((0, 2, 0, 1), (1, 2, 0, 1)))
        self.assertEqual(critical_chain(star, (0, 0, 0), (1, 1, 1)), ((2, 1), (0, 1)))
        self.assertEqual(critical_chain(star, (0, 0, 0), (1, 1, 1), 1, 2, 1), ((2, 1), (1, 1)))
        self.assertEqual(critical_chain(star, (1, 1, 1), (0, 0, 0)), ((0, 1), (2, 1)))
        self.assertEqual(critical_chain(star, (1, 1, 1), (0, 0, 0), 1, 2, 1), ((1, 1), (2, 1)))
        self.assertGreater(len(plain_chains(star, (0, 0, 0), (2, 2, 2), (1, 1, 1))), 1)
        self.assert_plan(star, (0, 0, 0), (2, 2, 2))

    def test_a_chain_follows_the_smallest_event_and_not_its_own_wagon(self):
        yard = (((0, 9),) * 2, ((0, 1, 0, 1),))
        self.assertEqual(
            critical_chain(yard, (0, 0), (2, 2)), ((1, 1), (0, 1), (1, 2), (0, 2)))
        self.assertEqual(
            critical_chain(yard, (0, 1), (2, 3)), ((0, 1), (1, 1), (0, 2), (1, 2)))

    def test_every_pair(self):
        draw = random.Random(10)
        for yard, start, goal in pairs_of_small_yards(29):
            if distance(yard, start, goal) > 9:
                continue
            count = len(start)
            self.assert_plan(yard, start, goal)
            self.assert_plan(yard, start, goal, *[3] * count)
            self.assert_plan(yard, start, goal, *[draw.randint(1, 3) for _ in start])
            self.assert_plan(yard, start, goal, *[draw.choice((1, 1000000)) for _ in start])
            slow = [1] * count
            slow[draw.randrange(count)] = 1000000
            self.assert_plan(yard, start, goal, *slow)

    def test_forty_wagons(self):
        for seed in range(4):
            yard, start, goal = drawn_pair(seed)
            draw = random.Random(seed)
            for durations in ((), [1000000] * 40, [draw.randint(1, 4) for _ in start]):
                before, plan = plain_plan(yard, start, goal, durations or (1,) * 40)
                times = ends(yard, start, goal, *durations)
                self.assertEqual(
                    {event: times[event[0]][event[1] - 1] for event in plan},
                    {event: end for event, (_, end) in plan.items()})
                last = finish(yard, start, goal, *durations)
                self.assertEqual(last, max([end for _, end in plan.values()], default=0))
                chain = critical_chain(yard, start, goal, *durations)
                self.assertEqual(chain, smallest_chain(before, plan))
                self.assertEqual(plan[chain[-1]][1] if chain else 0, last)

    def test_a_row_of_forty(self):
        close = tuple(range(40))
        goal = tuple(range(50, 90))
        expected = tuple(tuple(range(40 - wagon, 140 - wagon, 2)) for wagon in range(40))
        self.assertEqual(ends(CHAIN, close, goal), expected)
        self.assertEqual(finish(CHAIN, close, goal), 138)
        self.assertEqual(len(critical_chain(CHAIN, close, goal)), 138)

    def test_kinds_of_values_and_names(self):
        result = ends(goal=(1, 2, 3), start=(0, 1, 2), yard=Y)
        self.assertEqual([type(result)] + [type(row) for row in result], [tuple] * 4)
        self.assertEqual(finish(goal=(1, 2, 3), start=(0, 1, 2), yard=Y), 3)
        chain = critical_chain(goal=(1, 2, 3), start=(0, 1, 2), yard=Y)
        self.assertEqual([type(chain)] + [type(event) for event in chain], [tuple] * 4)


def smallest_chain(before, plan):
    """The smallest critical chain, by the smallest rest of one from every event on."""
    last = max([end for _, end in plan.values()], default=0)
    after = {}
    for event, needed in before.items():
        for other in needed:
            if plan[other][1] == plan[event][0]:
                after.setdefault(other, []).append(event)

    @functools.lru_cache(None)
    def leads_on(event):
        return plan[event][1] == last or any(leads_on(other) for other in after.get(event, []))

    # From the latest ones on, so that no call goes deep.
    for event in sorted(plan, key=lambda event: -plan[event][1]):
        leads_on(event)
    choices = [event for event in plan if not before[event]]
    chain = ()
    while any(leads_on(event) for event in choices):
        event = min(event for event in choices if leads_on(event))
        chain += (event,)
        choices = after.get(event, [])
    return chain


class ErrorsTest(YardTestCase):
    FUNCTIONS = (first_of(events), first_of(predecessors), is_order, ends, finish, critical_chain)
    PLANS = (ends, finish, critical_chain)

    def others(self, function):
        return [None] if function in (is_order,) + self.PLANS else []

    def test_constant(self):
        self.assertEqual(precedence.MOST_EVENTS, 2000)
        self.assertIs(type(precedence.MOST_EVENTS), int)

    def test_yard_start_and_goal_come_first(self):
        for function in self.FUNCTIONS:
            others = self.others(function)
            self.assert_yard_errors(function, [None, None] + others)
            self.assert_arrangement_errors(function, [Y], [None] + others)
            self.assert_arrangement_errors(function, [Y, (0, 1, 2)], others)

    def test_distance_of_2000_and_of_2001(self):
        for yard, start, near, far in (
            ((((0, 5000),), ()), (0,), (2000,), (2001,)),
            ((((0, 5000),), ()), (4000,), (2000,), (1999,)),
            (CHAIN, tuple(range(40)), tuple(range(50, 90)), tuple(range(50, 89)) + (90,)),
            ((((-MOST, MOST),) * 2, ()), (0, 0), (1000, -1000), (1001, -1000)),
        ):
            self.assertEqual(len(list(events(yard, start, near))), 2000)
            self.assertEqual(len(list(predecessors(yard, start, near))), 2000)
            self.assertIs(is_order(yard, start, near, tuple(numbered(schedule_to(yard, start, near)))), True)
            self.assertEqual(sum(len(row) for row in ends(yard, start, near)), 2000)
            self.assertGreaterEqual(finish(yard, start, near), 50)
            self.assertEqual(critical_chain(yard, start, near)[0][1], 1)
            for function in self.FUNCTIONS:
                self.assert_error(TooLarge(2000), function, yard, start, far, *self.others(function))

    def test_very_far_goals(self):
        yard = (((-MOST, MOST),) * 40, ())
        for function in self.FUNCTIONS:
            self.assert_error(
                TooLarge(2000), function, yard, (-MOST,) * 40, (MOST,) * 40, *self.others(function))

    def test_number_of_durations(self):
        for function in self.PLANS:
            for count in (1, 2, 4, 40):
                self.assert_error(
                    InvalidDurations(None), function, Y, (0, 1, 2), (1, 2, 3), *[1] * count)
                self.assert_error(
                    InvalidDurations(None), function, Y, (0, 1, 2), (0, 1, 2), *[None] * count)
            self.assertEqual(
                function(Y, (0, 1, 2), (1, 2, 3)), function(Y, (0, 1, 2), (1, 2, 3), 1, 1, 1))

    def test_wrong_durations(self):
        for function in self.PLANS:
            for value in NO_DURATIONS:
                with self.subTest(duration=str(value)[:60]):
                    for goal in ((1, 2, 3), (0, 1, 2)):
                        for durations, index in (
                            ((value, 1, None), 0), ((1, value, None), 1), ((1, 1000000, value), 2),
                        ):
                            self.assert_error(
                                InvalidDurations(index), function, Y, (0, 1, 2), goal, *durations)

    def test_durations_come_after_the_distance(self):
        yard = (((0, 5000),), ())
        for function in self.PLANS:
            self.assert_error(TooLarge(2000), function, yard, (0,), (2001,), 1, 2)
            self.assert_error(TooLarge(2000), function, yard, (0,), (2001,), 0)
            self.assert_error(InvalidDurations(None), function, yard, (0,), (2000,), 1, 2)
            self.assert_error(InvalidDurations(0), function, yard, (0,), (2000,), 0)

    def test_greatest_and_least_durations(self):
        self.assertEqual(finish(Y, (0, 1, 2), (1, 2, 3), 1000000, 1000000, 1000000), 3000000)
        self.assertEqual(finish(Y, (0, 1, 2), (1, 2, 3), 1, 1, 1), 3)

    def test_generators_raise_with_the_first_request(self):
        for function in (events, predecessors):
            # Also where nothing would be yielded.
            for args, kind in (
                ((None, (0, 1, 2), (0, 1, 2)), InvalidYard), ((Y, (0, 1), (0, 1)), InvalidArrangement),
                ((Y, (0, 1, 2), None), InvalidArrangement),
            ):
                with self.assertRaises(kind):
                    next(function(*args), None)


class ArgumentsTest(YardTestCase):
    def test_arguments_are_not_modified(self):
        for value in ([0, 1, 2], {0: [1]}, (0, [1], 2)):
            before = copy.deepcopy(value)
            with self.assertRaises(InvalidArrangement):
                ends(Y, value, (0, 1, 2))
            with self.assertRaises(InvalidYard):
                finish(value, (0, 1, 2), (0, 1, 2))
            with self.assertRaises(InvalidDurations):
                critical_chain(Y, (0, 1, 2), (1, 2, 3), value, 1, 1)
            self.assertEqual(value, before)

    def test_equal_calls_have_equal_results(self):
        for _ in range(2):
            self.assertEqual(ends(Y, (0, 1, 2), (1, 2, 3)), ((3,), (2,), (1,)))
            self.assertEqual(list(events(Y, (0, 1, 2), (1, 2, 3))), [(0, 1), (1, 1), (2, 1)])


if __name__ == "__main__":
    unittest.main()
