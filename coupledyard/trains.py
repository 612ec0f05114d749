"""Trains: a yard with an arrangement that changes by steps and drags."""

from coupledyard.arrangements import validate_arrangement
from coupledyard.drags import dragged
from coupledyard.errors import Blocked, InvalidCount, NothingToUndo
from coupledyard.pins import least_completion
from coupledyard.steps import check_step, reason, stepped, steps_to, walk
from coupledyard.texts import parse_yard
from coupledyard.yards import is_integer_from


class Train:
    """A train that knows how many steps it has made."""

    MOST_CALLS = 1000

    def __init__(self, yard, arrangement=None):
        if arrangement is None:
            self._places = least_completion(yard, ())
        else:
            validate_arrangement(yard, arrangement)
            self._places = arrangement
        self._yard = yard
        self._work = 0

    @classmethod
    def read(cls, text, **options):
        """Return a train of this class for the yard of a text."""
        yard = parse_yard(text)
        return cls(yard, **options)

    @property
    def yard(self):
        """The yard."""
        return self._yard

    @property
    def work(self):
        """The number of steps since the train was created."""
        return self._work

    @property
    def arrangement(self):
        """The present arrangement. Another one may be assigned, which makes no steps."""
        return self._places

    @arrangement.setter
    def arrangement(self, value):
        self._set_places(value)

    def put(self, arrangement):
        """Set the arrangement without steps."""
        self._set_places(arrangement)

    def move(self, *steps, count=1):
        """Make the steps in order, all of them so many times, and return the arrangement."""
        self._check_steps(steps)
        self._check_count(count)
        places = self._places
        for turn in range(count):
            places, index = walk(self._yard, places, steps)
            if index is not None:
                raise Blocked(turn * len(steps) + index)
        made = {}
        for step in steps:
            made[step] = made.get(step, 0) + count
        self._arrive(places, made)
        return places

    def drag(self, wagon, place):
        """Make a drag and return the wagons that moved, in ascending order."""
        places = dragged(self._yard, self._places, wagon, place)
        made = _steps_between(self._places, places)
        self._arrive(places, made)
        return tuple([other for other, _ in made])

    def trial(self, *steps):
        """Return where the steps would lead, or the reason of the first impossible one."""
        self._check_steps(steps)
        places, index = walk(self._yard, self._places, steps)
        if index is None:
            return places
        return reason(self._yard, places, steps[index])

    def go(self, goal):
        """Make the steps of the standard schedule to a goal, and yield each one then."""
        yard = self._yard
        start = self._places
        for step in steps_to(yard, start, goal):
            self._make_step(step)
            yield step

    def _check_steps(self, steps):
        for step in steps:
            check_step(self._yard, step)

    def _check_count(self, count):
        if not is_integer_from(count, 0, self.MOST_CALLS):
            raise InvalidCount(count)

    def _set_places(self, arrangement):
        validate_arrangement(self._yard, arrangement)
        self._places = arrangement

    def _make_step(self, step):
        wagon, sign = step
        self._arrive(stepped(self._places, wagon, sign), {step: 1})

    def _arrive(self, places, made):
        """Set the arrangement after steps, each of which is made so many times."""
        self._places = places
        self._work += sum(made.values())


class CountingTrain(Train):
    """A train that also counts the steps of each wagon in each direction."""

    def __init__(self, yard, arrangement=None):
        super().__init__(yard, arrangement)
        self._counts = {}

    @property
    def counts(self):
        """For each wagon, the numbers of its steps forwards and backwards."""
        made = self._counts
        wagons = range(len(self._places))
        return tuple([(made.get((wagon, 1), 0), made.get((wagon, -1), 0)) for wagon in wagons])

    def _arrive(self, places, made):
        super()._arrive(places, made)
        for step, count in made.items():
            self._counts[step] = self._counts.get(step, 0) + count


class UndoingTrain(Train):
    """A train that can undo its latest calls of move and drag."""

    def __init__(self, yard, arrangement=None):
        super().__init__(yard, arrangement)
        # Each call stands with the arrangement before it.
        self._calls = []

    @property
    def history(self):
        """The calls that can be undone."""
        return tuple([call for call, _ in self._calls])

    def move(self, *steps, count=1):
        """Make the steps in order, all of them so many times, and return the arrangement."""
        before = self._places
        places = super().move(*steps, count=count)
        self._calls.append((("move", steps, count), before))
        return places

    def drag(self, wagon, place):
        """Make a drag and return the wagons that moved, in ascending order."""
        before = self._places
        moved = super().drag(wagon, place)
        self._calls.append((("drag", wagon, place), before))
        return moved

    def undo(self, count=1):
        """Undo so many calls, the latest one first."""
        self._check_count(count)
        if count > len(self._calls):
            raise NothingToUndo(count)
        for _ in range(count):
            _, before = self._calls.pop()
            self._arrive(before, _steps_between(self._places, before))

    def _set_places(self, arrangement):
        super()._set_places(arrangement)
        self._calls = []

    def _make_step(self, step):
        super()._make_step(step)
        self._calls = []


class FullTrain(CountingTrain, UndoingTrain):
    """A train that counts the steps and can undo calls."""


def _steps_between(before, after):
    """Map each step on a shortest way, in ascending order, to how often it is made."""
    made = {}
    for wagon, (here, there) in enumerate(zip(before, after)):
        if here != there:
            made[(wagon, 1 if here < there else -1)] = abs(there - here)
    return made
