"""Arrangements: one place for each wagon, as the walls and the couplings allow."""

from coupledyard.errors import InvalidArrangement
from coupledyard.yards import is_integer_from, is_tuple_of, validate_yard


def validate_arrangement(yard, arrangement):
    """Raise InvalidArrangement for the first violation if a value is no arrangement."""
    _check_all(yard, (arrangement,))


def is_arrangement(yard, value):
    """Return whether a value of any kind is an arrangement of the yard."""
    try:
        validate_arrangement(yard, value)
    except InvalidArrangement:
        return False
    return True


def minimum(yard, *arrangements):
    """Return the least place of each wagon in the arrangements."""
    _check_all(yard, arrangements)
    return tuple([min(places) for places in zip(*arrangements)])


def maximum(yard, *arrangements):
    """Return the greatest place of each wagon in the arrangements."""
    _check_all(yard, arrangements)
    return tuple([max(places) for places in zip(*arrangements)])


def distance(yard, start, goal):
    """Return the sum of the absolute differences of the places."""
    return sum(_differences(yard, start, goal))


def stretch(yard, start, goal):
    """Return the greatest absolute difference of the places."""
    return max(_differences(yard, start, goal))


def shifted(yard, arrangement, by):
    """Return the arrangement with an integer added to every place."""
    _check_all(yard, (arrangement,))
    places = tuple([place + by for place in arrangement])
    # The couplings bound differences only, and a shift keeps all of them.
    _check_places(yard, places)
    return places


def check_arrangement(yard, value):
    """Raise InvalidArrangement if a value is not an arrangement of a valid yard."""
    if not is_tuple_of(value, len(yard[0])):
        raise InvalidArrangement("form", None)
    _check_places(yard, value)
    for index, (i, j, least, greatest) in enumerate(yard[1]):
        if not least <= value[j] - value[i] <= greatest:
            raise InvalidArrangement("couplings", index)


def _check_all(yard, values):
    validate_yard(yard)
    for value in values:
        check_arrangement(yard, value)


def _check_places(yard, places):
    for wagon, (low, high) in enumerate(yard[0]):
        if not is_integer_from(places[wagon], low, high):
            raise InvalidArrangement("places", wagon)


def _differences(yard, start, goal):
    _check_all(yard, (start, goal))
    return [abs(there - here) for here, there in zip(start, goal)]
