"""Section 13, section 2 for it, and the interface of coupledyard/trains.py."""

import copy
import inspect
import itertools
import random
import unittest

from coupledyard import trains
from coupledyard.arrangements import distance
from coupledyard.drags import dragged
from coupledyard.errors import (
    Blocked, Conflicting, InvalidArrangement, InvalidCount, InvalidPlace, InvalidStep, InvalidText,
    InvalidWagon, InvalidYard, NothingToUndo, OutOfReach, YardError, YardStateError,
)
from coupledyard.pins import conflict_of, least_completion
from coupledyard.steps import reason, schedule_to
from coupledyard.texts import yard_text
from coupledyard.trains import CountingTrain, FullTrain, Train, UndoingTrain
from tests.helpers import (
    BIG, CHAIN, EMPTY_YARDS, MOST, NO_ARRANGEMENTS, NO_PLACES, NO_STEPS, NO_WAGONS, NO_YARDS,
    OTHER_KINDS, SMALL_YARDS, Y, YardTestCase, all_arrangements, all_steps, moved,
)

CLASSES = (Train, CountingTrain, UndoingTrain, FullTrain)
COUNTING = (CountingTrain, FullTrain)
UNDOING = (UndoingTrain, FullTrain)
NO_COUNTS = OTHER_KINDS + [-1, 1001, BIG, -BIG, "1", (1,), [1]]
TEXT = "wagon 0 9\nwagon 0 9\nwagon 0 9\ncoupling 0 1 1 2\ncoupling 1 2 1 2"


def state_of(train):
    """All that a train shows."""
    state = {"yard": train.yard, "arrangement": train.arrangement, "work": train.work}
    if isinstance(train, COUNTING):
        state["counts"] = train.counts
    if isinstance(train, UNDOING):
        state["history"] = train.history
    return state


class Model:
    """A train as section 13 tells it, step by step."""

    def __init__(self, yard, places):
        self.yard = yard
        self.found = set(all_arrangements(yard))
        self.places = places
        self.made = []
        self.calls = []

    def counts(self):
        return tuple(
            (self.made.count((wagon, 1)), self.made.count((wagon, -1)))
            for wagon in range(len(self.places)))

    def state(self, train):
        state = {"yard": self.yard, "arrangement": self.places, "work": len(self.made)}
        if isinstance(train, COUNTING):
            state["counts"] = self.counts()
        if isinstance(train, UNDOING):
            state["history"] = tuple(call for call, _ in self.calls)
        return state

    def move_to(self, places):
        """Note the steps of a shortest way."""
        for wagon, (here, there) in enumerate(zip(self.places, places)):
            self.made += [(wagon, 1 if there > here else -1)] * abs(there - here)
        self.places = places

    def move(self, steps, count):
        places = self.places
        for index, step in enumerate(steps * count):
            places = moved(places, step)
            if places not in self.found:
                raise Blocked(index)
        self.calls.append((("move", steps, count), self.places))
        self.made += steps * count
        self.places = places
        return places

    def drag(self, wagon, place):
        places = dragged(self.yard, self.places, wagon, place)
        before = self.places
        self.calls.append((("drag", wagon, place), before))
        self.move_to(places)
        return tuple(v for v, (here, there) in enumerate(zip(before, places)) if here != there)

    def trial(self, steps):
        places = self.places
        for step in steps:
            new = moved(places, step)
            if new not in self.found:
                return reason(self.yard, places, step)
            places = new
        return places

    def go(self, goal, limit):
        steps = list(schedule_to(self.yard, self.places, goal))[:limit]
        for step in steps:
            self.made.append(step)
            self.places = moved(self.places, step)
            self.calls = []
        return steps

    def put(self, places):
        self.places = places
        self.calls = []

    def undo(self, count):
        if count > len(self.calls):
            raise NothingToUndo(count)
        for _ in range(count):
            self.move_to(self.calls.pop()[1])


class TrainTestCase(YardTestCase):
    def assert_error_and_state(self, error, train, function, *args, **keywords):
        """Assert the error of a method, and that the train is as it was."""
        before = state_of(train)
        self.assert_error(error, function, *args, **keywords)
        self.assertEqual(state_of(train), before)


class CreationTest(TrainTestCase):
    def test_with_an_arrangement(self):
        for kind in CLASSES:
            for train in (kind(Y, (3, 5, 6)), kind(arrangement=(3, 5, 6), yard=Y)):
                self.assertIs(type(train), kind)
                self.assertEqual((train.yard, train.arrangement, train.work), (Y, (3, 5, 6), 0))
                self.assertEqual(Model(Y, (3, 5, 6)).state(train), state_of(train))

    def test_without_one(self):
        for kind in CLASSES:
            for yard in SMALL_YARDS + [CHAIN]:
                for train in (kind(yard), kind(yard, None), kind(yard=yard, arrangement=None)):
                    self.assertEqual(train.arrangement, least_completion(yard, ()))
                    self.assertEqual((train.yard, train.work), (yard, 0))

    def test_yards_without_arrangements(self):
        for kind in CLASSES:
            for yard in EMPTY_YARDS:
                conflict = conflict_of(yard, ())
                self.assertIsNotNone(conflict)
                self.assert_error(Conflicting(conflict), kind, yard)
                self.assert_error(Conflicting(conflict), kind, yard, None)
                self.assert_error(Conflicting(conflict), kind.read, yard_text(yard))
                self.assert_error(
                    InvalidArrangement("form", None), kind, yard, (0,))

    def test_errors_in_order(self):
        for kind in CLASSES:
            for value, part, index in NO_YARDS:
                self.assert_error(InvalidYard(part, index), kind, value)
                self.assert_error(InvalidYard(part, index), kind, value, (0, 1))
            for value, part, index in NO_ARRANGEMENTS:
                if value is not None:
                    self.assert_error(InvalidArrangement(part, index), kind, Y, value)
                    self.assert_error(InvalidArrangement(part, index), kind, Y, arrangement=value)

    def test_classes(self):
        self.assertEqual(Train.__bases__, (object,))
        self.assertEqual(CountingTrain.__bases__, (Train,))
        self.assertEqual(UndoingTrain.__bases__, (Train,))
        self.assertEqual(FullTrain.__bases__, (CountingTrain, UndoingTrain))
        for kind, names in (
            (Train, "read MOST_CALLS yard work arrangement put move drag trial go"),
            (CountingTrain, "counts"), (UndoingTrain, "history undo"), (FullTrain, ""),
        ):
            self.assertEqual(kind.__module__, "coupledyard.trains")
            self.assertEqual(str(inspect.signature(kind)), "(yard, arrangement=None)")
            for name in names.split():
                self.assertIn(name, vars(kind))
        for kind, name in (
            (Train, "yard"), (Train, "work"), (Train, "arrangement"), (CountingTrain, "counts"),
            (UndoingTrain, "history"),
        ):
            self.assertIsInstance(vars(kind)[name], property)
        self.assertIsInstance(vars(Train)["read"], classmethod)

    def test_signatures(self):
        for kind in CLASSES:
            for name, text in (
                ("put", "(self, arrangement)"), ("move", "(self, *steps, count=1)"),
                ("drag", "(self, wagon, place)"), ("trial", "(self, *steps)"), ("go", "(self, goal)"),
            ):
                self.assertEqual(str(inspect.signature(getattr(kind, name))), text)
            self.assertEqual(str(inspect.signature(kind.read)), "(text, **options)")
        for kind in UNDOING:
            self.assertEqual(str(inspect.signature(kind.undo)), "(self, count=1)")

    def test_value_of_the_class(self):
        for kind in CLASSES:
            self.assertEqual(kind.MOST_CALLS, 1000)
            self.assertEqual(kind(Y).MOST_CALLS, 1000)
            self.assertIs(type(kind.MOST_CALLS), int)

    def test_properties_are_only_read(self):
        train = FullTrain(Y)
        for name in ("yard", "work", "counts", "history"):
            with self.assertRaises(AttributeError):
                setattr(train, name, None)
        self.assertEqual(state_of(train), state_of(FullTrain(Y)))


class ReadTest(TrainTestCase):
    def test_without_and_with_the_option(self):
        for kind in CLASSES:
            train = kind.read(TEXT)
            self.assertIs(type(train), kind)
            self.assertEqual(state_of(train), state_of(kind(Y)))
            self.assertEqual(state_of(kind.read(TEXT, arrangement=None)), state_of(kind(Y)))
            train = kind.read(text=TEXT, arrangement=(3, 5, 6))
            self.assertIs(type(train), kind)
            self.assertEqual(state_of(train), state_of(kind(Y, (3, 5, 6))))

    def test_off_an_object(self):
        self.assertIs(type(FullTrain(CHAIN).read(TEXT)), FullTrain)

    def test_a_subclass_of_ones_own(self):
        class Longest(FullTrain):
            MOST_CALLS = 3

        train = Longest.read(TEXT, arrangement=(0, 1, 2))
        self.assertIs(type(train), Longest)
        self.assertEqual(train.move((2, 1), (2, -1), count=3), (0, 1, 2))
        self.assert_error_and_state(InvalidCount(4), train, train.move, (2, 1), count=4)
        self.assert_error_and_state(InvalidCount(4), train, train.undo, 4)
        self.assertEqual(FullTrain.MOST_CALLS, 1000)

    def test_errors(self):
        for kind in CLASSES:
            for text, line in (
                (None, 0), (Y, 0), ("", 1), (TEXT + "\n", 6), (TEXT + "\nx", 6), ("wagon 9 0", 1),
            ):
                self.assert_error(InvalidText(line), kind.read, text)
                self.assert_error(InvalidText(line), kind.read, text, arrangement=(0, 1, 4))
            for value, part, index in NO_ARRANGEMENTS:
                if value is not None:
                    self.assert_error(
                        InvalidArrangement(part, index), kind.read, TEXT, arrangement=value)
            self.assert_error(
                Conflicting((("wall", 0), ("wall", 1))), kind.read,
                "wagon 0 3\nwagon 0 3\ncoupling 0 1 4 9")
            with self.assertRaises(TypeError):
                kind.read(TEXT, (0, 1, 2))
            with self.assertRaises(TypeError):
                kind.read(TEXT, other=1)


class MoveTest(TrainTestCase):
    def test_no_steps_and_several(self):
        for kind in CLASSES:
            train = kind(Y)
            self.assertEqual(train.move(), (0, 1, 2))
            self.assertEqual(train.work, 0)
            self.assertEqual(train.move(count=1000), (0, 1, 2))
            self.assertEqual(train.move((2, 1)), (0, 1, 3))
            self.assertEqual(train.move((1, 1), (0, 1)), (1, 2, 3))
            self.assertEqual((train.arrangement, train.work), ((1, 2, 3), 3))
            self.assertIs(type(train.move((2, 1))), tuple)

    def test_counts(self):
        for kind in CLASSES:
            train = kind(CHAIN, tuple(range(40)))
            self.assertEqual(train.move((39, 1), count=0), tuple(range(40)))
            self.assertEqual(train.work, 0)
            # The step is not possible, but it is not made either.
            self.assertEqual(train.move((0, 1), count=0), tuple(range(40)))
            self.assertEqual(train.move((39, 1), (39, -1), count=1), tuple(range(40)))
            all_forwards = [(wagon, 1) for wagon in range(39, -1, -1)]
            self.assertEqual(train.move(*all_forwards, count=2), tuple(range(2, 42)))
            self.assertEqual(train.work, 82)
            self.assertEqual(train.move(*all_forwards, count=1000), tuple(range(1002, 1042)))
            self.assertEqual(train.work, 40082)

    def test_most_calls_of_a_far_goal(self):
        train = FullTrain((((-MOST, MOST),), ()), (0,))
        self.assertEqual(train.move(*[(0, -1)] * 100, count=1000), (-100000,))
        self.assertEqual((train.work, train.counts), (100000, ((0, 100000),)))
        train.undo()
        self.assertEqual((train.work, train.counts), (200000, ((100000, 100000),)))

    def test_blocked_in_the_first_repetition(self):
        for kind in CLASSES:
            train = kind(Y)
            train.move((2, 1))
            for steps, index in (
                (((0, 1),), 0), (((2, 1),), 0), (((1, 1), (0, 1), (0, 1)), 2),
                (((1, 1), (2, -1)), 1), (((1, -1), (2, 1)), 0),
            ):
                for count in (1, 5, 1000):
                    self.assert_error_and_state(Blocked(index), train, train.move, *steps, count=count)

    def test_blocked_in_a_later_repetition(self):
        for kind in CLASSES:
            train = kind(Y)
            train.move((2, 1))
            forwards = ((2, -1), (2, 1), (1, 1), (0, 1), (2, 1))
            # (1, 2, 4) after the first one, (6, 7, 9) after six.
            self.assert_error_and_state(Blocked(34), train, train.move, *forwards, count=7)
            self.assert_error_and_state(Blocked(34), train, train.move, *forwards, count=1000)
            self.assertEqual(train.move(*forwards, count=6), (6, 7, 9))
            self.assert_error_and_state(Blocked(1), train, train.move, (1, 1), count=1000)

    def test_wrong_steps(self):
        for kind in CLASSES:
            train = kind(Y)
            for step in NO_STEPS:
                with self.subTest(step=str(step)[:60]):
                    for steps in ((step,), ((2, 1), step, None), ((0, 1), step)):
                        self.assert_error_and_state(InvalidStep(step), train, train.move, *steps)
                        self.assert_error_and_state(
                            InvalidStep(step), train, train.move, *steps, count=None)

    def test_wrong_counts(self):
        for kind in CLASSES:
            train = kind(Y)
            for value in NO_COUNTS:
                with self.subTest(count=str(value)[:60]):
                    for steps in ((), ((2, 1),), ((0, 1),)):
                        self.assert_error_and_state(
                            InvalidCount(value), train, train.move, *steps, count=value)


class DragTest(TrainTestCase):
    def test_drags(self):
        for kind in CLASSES:
            train = kind(Y)
            self.assertEqual(train.drag(2, 3), (2,))
            self.assertEqual(train.drag(2, 5), (0, 1, 2))
            self.assertEqual((train.arrangement, train.work), ((1, 3, 5), 6))
            self.assertEqual(train.drag(1, 3), ())
            self.assertEqual((train.arrangement, train.work), ((1, 3, 5), 6))
            self.assertEqual(train.drag(place=4, wagon=2), (2,))
            self.assertEqual(train.drag(0, 0), (0, 1))
            self.assertEqual((train.arrangement, train.work), ((0, 2, 4), 9))
            self.assertIs(type(train.drag(0, 1)), tuple)

    def test_far_drags(self):
        for kind in CLASSES:
            train = kind((((-MOST, MOST), (-MOST, MOST)), ((0, 1, 1, 2),)), (-MOST, 2 - MOST))
            self.assertEqual(train.drag(1, MOST), (0, 1))
            self.assertEqual((train.arrangement, train.work), ((MOST - 2, MOST), 4 * MOST - 4))

    def test_errors(self):
        for kind in CLASSES:
            train = kind(Y)
            self.assert_error_and_state(OutOfReach(2), train, train.drag, 0, 8)
            self.assert_error_and_state(OutOfReach(0), train, train.drag, 2, 1)
            self.assert_error_and_state(OutOfReach(0), train, train.drag, 1, MOST)
            for value in NO_WAGONS:
                self.assert_error_and_state(InvalidWagon(value), train, train.drag, value, None)
            for value in NO_PLACES:
                self.assert_error_and_state(InvalidPlace(value), train, train.drag, 1, value)


class TrialTest(TrainTestCase):
    def test_trials(self):
        for kind in CLASSES:
            train = kind(Y)
            train.move((2, 1))
            before = state_of(train)
            for steps, expected in (
                ((), (0, 1, 3)), (((1, 1),), (0, 2, 3)), (((1, 1), (0, 1), (2, 1)), (1, 2, 4)),
                (((0, 1),), ((0, 1), "free")), (((2, -1), (0, 1)), ((0, 1, 2), "free")),
                (((1, 1), (0, 1), (0, 1), (2, 1)), ((0, 1, 2), "free")),
                (((0, -1), (0, 1)), ((0,), "wall")), (((2, -1), (1, -1)), ((1, 0), "wall")),
                (((2, -1), (2, -1), (1, 1)), ((2, 1, 0), "wall")),
            ):
                self.assertEqual(train.trial(*steps), expected)
                self.assertEqual(state_of(train), before)

    def test_very_many_steps(self):
        # More than a schedule may have.
        train = UndoingTrain((((0, 1),), ()), (0,))
        steps = ((0, 1), (0, -1)) * 60000
        self.assertEqual(train.trial(*steps), (0,))
        self.assertEqual(train.trial(*steps, (0, 1), (0, 1)), ((0,), "wall"))
        self.assertEqual(train.move(*steps), (0,))
        self.assertEqual(train.work, 120000)

    def test_wrong_steps(self):
        for kind in CLASSES:
            train = kind(Y)
            for step in NO_STEPS:
                for steps in ((step,), ((2, 1), step, None), ((0, 1), step)):
                    self.assert_error_and_state(InvalidStep(step), train, train.trial, *steps)


class GoTest(TrainTestCase):
    def test_to_the_end(self):
        for kind in CLASSES:
            train = kind(Y)
            states = []
            steps = []
            for step in train.go((1, 2, 3)):
                steps.append(step)
                states.append((train.arrangement, train.work))
            self.assertEqual(tuple(steps), schedule_to(Y, (0, 1, 2), (1, 2, 3)))
            self.assertEqual(states, [((0, 1, 3), 1), ((0, 2, 3), 2), ((1, 2, 3), 3)])
            self.assertEqual(list(train.go(goal=(0, 1, 2))), [(0, -1), (1, -1), (2, -1)])
            self.assertEqual((train.arrangement, train.work), ((0, 1, 2), 6))

    def test_stopped_early(self):
        for kind in CLASSES:
            train = kind(Y)
            steps = train.go((3, 5, 7))
            self.assertTrue(inspect.isgenerator(steps))
            self.assertEqual((train.arrangement, train.work), ((0, 1, 2), 0))
            self.assertEqual([next(steps), next(steps)], [(2, 1), (1, 1)])
            steps.close()
            self.assertEqual((train.arrangement, train.work), ((0, 2, 3), 2))
            for _ in train.go((3, 5, 7)):
                break
            self.assertEqual((train.arrangement, train.work), ((1, 2, 3), 3))

    def test_to_where_it_stands(self):
        for kind in CLASSES:
            train = kind(Y)
            train.move((2, 1))
            before = state_of(train)
            self.assertEqual(list(train.go((0, 1, 3))), [])
            self.assertEqual(state_of(train), before)

    def test_first_steps_of_very_many(self):
        for kind in CLASSES:
            yard = (((-MOST, MOST),) * 3, ((0, 1, 1, 2), (1, 2, 1, 2)))
            train = kind(yard)
            first = list(itertools.islice(train.go((MOST - 2, MOST - 1, MOST)), 4))
            self.assertEqual(first, [(2, 1), (1, 1), (0, 1), (2, 1)])
            self.assertEqual((train.arrangement, train.work), ((1 - MOST, 2 - MOST, 4 - MOST), 4))

    def test_errors_with_the_first_request(self):
        for kind in CLASSES:
            train = kind(Y)
            train.move((2, 1))
            for value, part, index in NO_ARRANGEMENTS:
                self.assert_error_and_state(
                    InvalidArrangement(part, index), train, lambda: next(train.go(value), None))

    def test_two_trains_in_turn(self):
        one, two = FullTrain(Y), FullTrain(Y, (1, 2, 3))
        steps, back = one.go((1, 2, 3)), two.go((0, 1, 2))
        self.assertEqual([next(steps), next(back), next(steps)], [(2, 1), (0, -1), (1, 1)])
        self.assertEqual((one.arrangement, two.arrangement), ((0, 2, 3), (0, 2, 3)))
        self.assertEqual((one.counts, two.counts), (
            ((0, 0), (1, 0), (1, 0)), ((0, 1), (0, 0), (0, 0))))


class PutTest(TrainTestCase):
    def test_put_and_assignment(self):
        for kind in CLASSES:
            train = kind(Y)
            train.move((2, 1))
            self.assertIsNone(train.put((3, 5, 6)))
            self.assertEqual((train.arrangement, train.work), ((3, 5, 6), 1))
            train.arrangement = (4, 5, 7)
            self.assertEqual((train.arrangement, train.work), ((4, 5, 7), 1))
            self.assertIsNone(train.put(arrangement=(4, 5, 7)))
            if kind in COUNTING:
                self.assertEqual(train.counts, ((0, 0), (0, 0), (1, 0)))
            if kind in UNDOING:
                self.assertEqual(train.history, ())

    def test_errors(self):
        def assign(train, value):
            train.arrangement = value

        for kind in CLASSES:
            train = kind(Y)
            train.move((2, 1))
            for value, part, index in NO_ARRANGEMENTS:
                error = InvalidArrangement(part, index)
                self.assert_error_and_state(error, train, train.put, value)
                self.assert_error_and_state(error, train, assign, train, value)


class CountsTest(TrainTestCase):
    def test_of_each_kind_of_call(self):
        for kind in COUNTING:
            train = kind(Y)
            self.assertEqual(train.counts, ((0, 0), (0, 0), (0, 0)))
            train.move((2, 1), (2, -1), count=3)
            self.assertEqual(train.counts, ((0, 0), (0, 0), (3, 3)))
            train.drag(2, 5)
            self.assertEqual(train.counts, ((1, 0), (2, 0), (6, 3)))
            train.drag(0, 0)
            self.assertEqual(train.counts, ((1, 1), (2, 1), (6, 4)))
            train.drag(0, 0)
            train.trial((0, 1))
            train.put((7, 8, 9))
            self.assertEqual(train.counts, ((1, 1), (2, 1), (6, 4)))
            steps = train.go((6, 8, 9))
            self.assertEqual(next(steps), (0, -1))
            self.assertEqual(train.counts, ((1, 2), (2, 1), (6, 4)))
            self.assertEqual(
                [type(train.counts)] + [type(pair) for pair in train.counts], [tuple] * 4)
            self.assertEqual(train.work, sum(map(sum, train.counts)))

    def test_blocked_moves_do_not_count(self):
        for kind in COUNTING:
            train = kind(Y)
            self.assert_error_and_state(Blocked(1), train, train.move, (2, 1), (0, 1))
            self.assertEqual(train.counts, ((0, 0), (0, 0), (0, 0)))

    def test_other_trains_have_none(self):
        for kind in (Train, UndoingTrain):
            self.assertFalse(hasattr(kind(Y), "counts"))
        for kind in (Train, CountingTrain):
            self.assertFalse(hasattr(kind(Y), "history"))
            self.assertFalse(hasattr(kind(Y), "undo"))


class HistoryTest(TrainTestCase):
    def test_example(self):
        train = FullTrain(Y)
        self.assertEqual(train.move((2, 1), (1, 1)), (0, 2, 3))
        self.assertEqual(train.drag(2, 6), (0, 1, 2))
        self.assertEqual(train.trial((0, 1), (0, 1)), ((0, 1), "free"))
        self.assertEqual(
            (train.arrangement, train.work, train.counts, train.history),
            ((2, 4, 6), 9, ((2, 0), (3, 0), (4, 0)),
             (("move", ((2, 1), (1, 1)), 1), ("drag", 2, 6))))
        train = UndoingTrain.read("wagon 0 9\nwagon 0 9\ncoupling 0 1 1 2", arrangement=(4, 5))
        self.assertEqual(train.move((1, 1), (0, 1), count=2), (6, 7))
        self.assertIsNone(train.undo())
        self.assertEqual((train.arrangement, train.work, train.history), ((4, 5), 8, ()))

    def test_calls_that_change_nothing(self):
        for kind in UNDOING:
            train = kind(Y)
            train.move()
            train.move((0, 1), count=0)
            train.drag(1, 1)
            train.move((2, 1), (2, -1))
            train.move(count=7)
            self.assertEqual(train.history, (
                ("move", (), 1), ("move", ((0, 1),), 0), ("drag", 1, 1),
                ("move", ((2, 1), (2, -1)), 1), ("move", (), 7)))
            self.assertIsNone(train.undo(5))
            self.assertEqual((train.history, train.work, train.arrangement), ((), 2, (0, 1, 2)))

    def test_calls_that_raise_errors_are_not_recorded(self):
        for kind in UNDOING:
            train = kind(Y)
            train.move((2, 1))
            self.assert_error_and_state(Blocked(0), train, train.move, (0, 1))
            self.assert_error_and_state(OutOfReach(2), train, train.drag, 0, 8)
            self.assertEqual(train.history, (("move", ((2, 1),), 1),))

    def test_trials_are_not_recorded(self):
        train = UndoingTrain(Y)
        train.trial((2, 1))
        self.assertEqual(train.history, ())

    def test_what_empties_the_history(self):
        def assign(train):
            train.arrangement = (0, 1, 3)

        def go(train):
            list(train.go((1, 2, 3)))

        def one_step(train):
            next(train.go((3, 4, 5)))

        for kind in UNDOING:
            for act in (assign, go, one_step, lambda train: train.put((0, 1, 3))):
                train = kind(Y)
                train.move((2, 1))
                train.drag(2, 4)
                self.assertEqual(len(train.history), 2)
                act(train)
                self.assertEqual(train.history, ())
                self.assert_error_and_state(NothingToUndo(1), train, train.undo)
                train.undo(0)

    def test_every_step_of_go_empties_it(self):
        for kind in UNDOING:
            train = kind(Y)
            steps = train.go((1, 2, 3))
            next(steps)
            self.assertEqual(train.history, ())
            for _ in steps:
                self.assertEqual(train.history, ())

    def test_undo(self):
        for kind in UNDOING:
            train = kind(Y)
            train.move((2, 1))
            train.drag(2, 5)
            train.move((2, -1))
            self.assertEqual((train.arrangement, train.work), ((1, 3, 4), 7))
            self.assertIsNone(train.undo(0))
            self.assertEqual((train.arrangement, train.work, len(train.history)), ((1, 3, 4), 7, 3))
            self.assertIsNone(train.undo())
            self.assertEqual((train.arrangement, train.work), ((1, 3, 5), 8))
            self.assertEqual(train.history, (("move", ((2, 1),), 1), ("drag", 2, 5)))
            self.assertIsNone(train.undo(count=2))
            self.assertEqual((train.arrangement, train.work, train.history), ((0, 1, 2), 14, ()))
            if kind in COUNTING:
                self.assertEqual(train.counts, ((1, 1), (2, 2), (4, 4)))

    def test_each_call_is_undone_on_its_own(self):
        # There and back again: nothing is left of it at once, but one call after the other.
        for kind in UNDOING:
            train = kind(Y)
            train.drag(2, 9)
            train.drag(0, 0)
            train.drag(2, 2)
            self.assertEqual((train.arrangement, train.work), ((0, 1, 2), 36))
            train.undo(3)
            self.assertEqual((train.arrangement, train.work), ((0, 1, 2), 72))
            # Steps to and fro within one call are not made again.
            train.move((2, 1), (2, -1), count=10)
            self.assertEqual(train.work, 92)
            train.undo()
            self.assertEqual(train.work, 92)

    def test_wrong_counts(self):
        for kind in UNDOING:
            train = kind(Y)
            train.move((2, 1))
            for value in NO_COUNTS:
                with self.subTest(count=str(value)[:60]):
                    self.assert_error_and_state(InvalidCount(value), train, train.undo, value)
                    self.assert_error_and_state(InvalidCount(value), train, train.undo, count=value)

    def test_too_many_calls(self):
        for kind in UNDOING:
            train = kind(Y)
            self.assert_error_and_state(NothingToUndo(1), train, train.undo)
            self.assert_error_and_state(NothingToUndo(1000), train, train.undo, 1000)
            train.move((2, 1))
            self.assert_error_and_state(NothingToUndo(2), train, train.undo, 2)
            train.undo()
            self.assert_error_and_state(NothingToUndo(1), train, train.undo)

    def test_more_calls_than_are_undone_at_once(self):
        for kind in UNDOING:
            train = kind(Y)
            for _ in range(1001):
                train.move((2, 1), (2, -1))
            self.assertEqual(len(train.history), 1001)
            self.assert_error_and_state(InvalidCount(1001), train, train.undo, 1001)
            train.undo(1000)
            self.assertEqual(len(train.history), 1)

    def test_kinds_of_values(self):
        train = UndoingTrain(Y)
        train.move((2, 1), (1, 1))
        train.drag(2, 4)
        history = train.history
        self.assertEqual([type(history)] + [type(call) for call in history], [tuple] * 3)
        self.assertIs(type(history[0][1]), tuple)
        train.undo(2)
        self.assertEqual(len(history), 2)


class ManyCallsTest(TrainTestCase):
    """Drawn calls of all methods, against the model."""

    def outcome(self, function, *args, **keywords):
        """The result of a call, or the text of its error."""
        try:
            return function(*args, **keywords)
        except (YardError, YardStateError) as error:
            return (type(error), repr(vars(error)))

    def one_call(self, draw, train, model):
        yard = train.yard
        found = sorted(model.found)
        steps = tuple(draw.choice(all_steps(yard)) for _ in range(draw.randint(0, 3)))
        count = draw.choice((0, 1, 1, 1, 2, 3))
        wagon = draw.randrange(len(yard[0]))
        place = draw.randint(yard[0][wagon][0] - 1, yard[0][wagon][1] + 1)
        goal = draw.choice(found)
        limit = draw.randint(0, 5)
        number = draw.choice((0, 1, 1, 2, 3, 9))
        calls = [
            (lambda: train.move(*steps, count=count), lambda: model.move(steps, count)),
            (lambda: train.drag(wagon, place), lambda: model.drag(wagon, place)),
            (lambda: train.trial(*steps), lambda: model.trial(steps)),
            (lambda: list(itertools.islice(train.go(goal), limit)), lambda: model.go(goal, limit)),
            (lambda: train.put(goal), lambda: model.put(goal)),
        ]
        if isinstance(train, UNDOING):
            calls.append((lambda: train.undo(number), lambda: model.undo(number)))
        weights = [8, 8, 3, 1, 1, 5]
        one, other = draw.choices(calls, weights[:len(calls)])[0]
        self.assertEqual(self.outcome(one), self.outcome(other))
        self.assertEqual(state_of(train), model.state(train))

    def test_calls(self):
        for kind in CLASSES:
            for number, yard in enumerate(SMALL_YARDS):
                draw = random.Random(number)
                places = draw.choice(all_arrangements(yard))
                train = kind(yard, places)
                model = Model(yard, places)
                for _ in range(150):
                    self.one_call(draw, train, model)


class ArgumentsTest(TrainTestCase):
    def test_arguments_are_not_modified_or_kept(self):
        for kind in CLASSES:
            train = kind(Y)
            for value in ([0, 1, 2], {0: [1]}, (0, [1], 2)):
                before = copy.deepcopy(value)
                with self.assertRaises(InvalidYard):
                    kind(value)
                with self.assertRaises(InvalidArrangement):
                    kind(Y, value)
                with self.assertRaises(InvalidArrangement):
                    train.put(value)
                with self.assertRaises(InvalidStep):
                    train.move(value)
                with self.assertRaises(InvalidWagon):
                    train.drag(value, 0)
                with self.assertRaises(InvalidText):
                    kind.read(value)
                self.assertEqual(value, before)
        steps = [(2, 1), (1, 1)]
        train = UndoingTrain(Y)
        train.move(*steps)
        steps.clear()
        self.assertEqual(train.history, (("move", ((2, 1), (1, 1)), 1),))

    def test_trains_do_not_share_anything(self):
        one, two = FullTrain(Y), FullTrain(Y)
        one.move((2, 1))
        self.assertEqual(state_of(two), state_of(FullTrain(Y)))
        self.assertEqual(distance(Y, one.arrangement, two.arrangement), 1)

    def test_classes_of_the_file(self):
        found = {name for name, value in vars(trains).items() if inspect.isclass(value)
                 and value.__module__ == "coupledyard.trains"}
        self.assertEqual(found, {"Train", "CountingTrain", "UndoingTrain", "FullTrain"})


if __name__ == "__main__":
    unittest.main()
