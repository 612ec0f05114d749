"""Steps: one wagon moves by one place, as the walls and the couplings allow."""

from heapq import heappop, heappush

from coupledyard.arrangements import distance, minimum, validate_arrangement
from coupledyard.errors import Blocked, InvalidSchedule, InvalidStep, TooLarge
from coupledyard.yards import is_integer_from, is_tuple_of, neighbours_of

MOST_STEPS = 100000


def possible_steps(yard, arrangement):
    """Return the possible steps in ascending order."""
    validate_arrangement(yard, arrangement)
    neighbours = neighbours_of(yard)
    found = []
    for wagon in range(len(arrangement)):
        for sign in (-1, 1):
            if _can_step(yard, neighbours, arrangement, wagon, sign):
                found.append((wagon, sign))
    return tuple(found)


def is_possible(yard, arrangement, step):
    """Return whether a step is possible."""
    validate_arrangement(yard, arrangement)
    check_step(yard, step)
    return _can_step(yard, neighbours_of(yard), arrangement, step[0], step[1])


def reason(yard, arrangement, step):
    """Return the reason of an impossible step, and None for a possible one."""
    validate_arrangement(yard, arrangement)
    check_step(yard, step)
    neighbours = neighbours_of(yard)
    wagon, sign = step
    chain = [wagon]
    while not _can_step(yard, neighbours, arrangement, wagon, sign):
        if _has_no_room(yard, arrangement, wagon, sign):
            return (tuple(chain), "wall")
        wagon = holder(neighbours, arrangement, wagon, sign)
        chain.append(wagon)
    if len(chain) == 1:
        return None
    return (tuple(chain), "free")


def after(yard, arrangement, schedule):
    """Return the arrangement after the steps of a schedule."""
    validate_arrangement(yard, arrangement)
    _check_schedule(yard, schedule)
    places, index = walk(yard, arrangement, schedule)
    if index is not None:
        raise Blocked(index)
    return places


def states_along(yard, arrangement, schedule):
    """Yield the arrangement after each step of a schedule."""
    validate_arrangement(yard, arrangement)
    _check_schedule(yard, schedule)
    neighbours = neighbours_of(yard)
    places = list(arrangement)
    for index, (wagon, sign) in enumerate(schedule):
        if not _can_step(yard, neighbours, places, wagon, sign):
            raise Blocked(index)
        places[wagon] += sign
        yield tuple(places)


def steps_to(yard, start, goal):
    """Yield the steps of the standard schedule from one arrangement to another one."""
    # All steps backwards together lead to the minimum of both.
    turn = minimum(yard, start, goal)
    yield from _steps_one_way(yard, start, turn, -1)
    yield from _steps_one_way(yard, turn, goal, 1)


def schedule_to(yard, start, goal):
    """Return the standard schedule from one arrangement to another one."""
    if distance(yard, start, goal) > MOST_STEPS:
        raise TooLarge(MOST_STEPS)
    return tuple(steps_to(yard, start, goal))


def is_shortest(yard, arrangement, schedule):
    """Return whether a schedule is possible and no shorter one leads to the same end."""
    try:
        last = after(yard, arrangement, schedule)
    except Blocked:
        return False
    return len(schedule) == distance(yard, arrangement, last)


def check_step(yard, value):
    """Raise InvalidStep if a value is not a step of a valid yard."""
    if not _is_step(yard, value):
        raise InvalidStep(value)


def walk(yard, start, steps):
    """Return the arrangement after the steps and the index of the first impossible one.

    If all are possible, the index is None. Otherwise the arrangement is the one before it.
    """
    neighbours = neighbours_of(yard)
    places = list(start)
    for index, (wagon, sign) in enumerate(steps):
        if not _can_step(yard, neighbours, places, wagon, sign):
            return (tuple(places), index)
        places[wagon] += sign
    return (tuple(places), None)


def stepped(places, wagon, sign):
    """Return the places after a step, possible or not."""
    return places[:wagon] + (places[wagon] + sign,) + places[wagon + 1:]


def holder(neighbours, places, wagon, sign):
    """Return the other wagon of the first coupling that holds a wagon, or None."""
    place = places[wagon] + sign
    for other, (least, greatest) in neighbours[wagon].items():
        if not least <= places[other] - place <= greatest:
            return other
    return None


def _is_step(yard, value):
    if not is_tuple_of(value, 2):
        return False
    wagon, sign = value
    if not is_integer_from(wagon, 0, len(yard[0]) - 1):
        return False
    return is_integer_from(sign, -1, 1) and sign != 0


def _check_schedule(yard, value):
    if not isinstance(value, tuple) or len(value) > MOST_STEPS:
        raise InvalidSchedule(None)
    for index, step in enumerate(value):
        if not _is_step(yard, step):
            raise InvalidSchedule(index)


def _can_step(yard, neighbours, places, wagon, sign):
    if _has_no_room(yard, places, wagon, sign):
        return False
    return holder(neighbours, places, wagon, sign) is None


def _has_no_room(yard, places, wagon, sign):
    low, high = yard[0][wagon]
    return places[wagon] == (high if sign > 0 else low)


def _steps_one_way(yard, start, goal, sign):
    """Yield the steps from start to goal, all with one sign, smallest possible wagon first."""
    neighbours = neighbours_of(yard)
    places = list(start)
    # A wagon whose step is possible keeps it while the others move in the same
    # direction, so only the mover and those coupled with it are looked at again.
    ready = [wagon for wagon in range(len(places)) if _is_ready(neighbours, places, goal, wagon, sign)]
    while ready:
        mover = heappop(ready)
        places[mover] += sign
        yield (mover, sign)
        for wagon in [mover] + list(neighbours[mover]):
            if wagon not in ready and _is_ready(neighbours, places, goal, wagon, sign):
                heappush(ready, wagon)


def _is_ready(neighbours, places, goal, wagon, sign):
    # The goal is within the walls, so a wagon on its way there is not at its wall.
    return places[wagon] != goal[wagon] and holder(neighbours, places, wagon, sign) is None
