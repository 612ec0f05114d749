"""Rounds: every wagon moves by at most one place, and all of them at once."""

from coupledyard.arrangements import check_arrangement, stretch, validate_arrangement
from coupledyard.errors import Blocked, InvalidArrangement, InvalidRounds
from coupledyard.yards import is_integer_from, is_tuple_of

MOST_ROUNDS = 100000


def straight_rounds(yard, start, goal):
    """Yield the straight rounds from one arrangement to another one."""
    for count in range(stretch(yard, start, goal)):
        earlier = _state(start, goal, count)
        later = _state(start, goal, count + 1)
        yield tuple([there - here for here, there in zip(earlier, later)])


def straight_states(yard, start, goal):
    """Yield the arrangement after each of the straight rounds."""
    for count in range(stretch(yard, start, goal)):
        yield _state(start, goal, count + 1)


def after_rounds(yard, arrangement, rounds):
    """Return the arrangement after the rounds."""
    validate_arrangement(yard, arrangement)
    _check_rounds(yard, rounds)
    places = arrangement
    for index, changes in enumerate(rounds):
        places = tuple([place + by for place, by in zip(places, changes)])
        try:
            check_arrangement(yard, places)
        except InvalidArrangement:
            raise Blocked(index) from None
    return places


def state_after(yard, start, goal, count):
    """Return the arrangement after so many straight rounds, or the goal."""
    validate_arrangement(yard, start)
    check_arrangement(yard, goal)
    return _state(start, goal, count)


def _state(start, goal, count):
    return tuple([_place(here, there, count) for here, there in zip(start, goal)])


def _place(here, there, count):
    """Return the place of a wagon that has moved towards another one so many times."""
    if here < there:
        return min(here + count, there)
    return max(here - count, there)


def _check_rounds(yard, value):
    if not isinstance(value, tuple) or len(value) > MOST_ROUNDS:
        raise InvalidRounds(None)
    for index, changes in enumerate(value):
        if not _is_round(yard, changes):
            raise InvalidRounds(index)


def _is_round(yard, value):
    if not is_tuple_of(value, len(yard[0])):
        return False
    return all([is_integer_from(change, -1, 1) for change in value])
