"""Pins: places that are given for some wagons, and what follows for the others."""

from coupledyard.arrangements import is_arrangement
from coupledyard.errors import Conflicting, InvalidPins
from coupledyard.yards import (
    MOST_PLACE, MOST_WAGONS, check_wagon, is_integer_from, is_tuple_of, spans_from, validate_yard,
)


def validate_pins(yard, pins):
    """Raise InvalidPins for the first violation if a value is not pins of the yard."""
    validate_yard(yard)
    check_pins(yard, pins)


def forced(yard, pins, wagon):
    """Return the greatest place forced by lower bounds and the least one by upper bounds."""
    validate_pins(yard, pins)
    check_wagon(yard, wagon)
    return (_forced_from_below(yard, pins, wagon), _forced_from_above(yard, pins, wagon))


def is_conflict(yard, pins, value):
    """Return whether a value of any kind is a conflict of the pins."""
    validate_pins(yard, pins)
    if not is_tuple_of(value, 2):
        return False
    lower, upper = value
    lowers = _lower_bounds(yard, pins)
    uppers = _upper_bounds(yard, pins)
    if not _is_one_of(lower, lowers) or not _is_one_of(upper, uppers):
        return False
    return _contradict(spans_from(yard, lower[1]), lowers[lower], upper, uppers[upper])


def conflict_of(yard, pins):
    """Return the smallest conflict of the pins, or None."""
    validate_pins(yard, pins)
    uppers = _upper_bounds(yard, pins)
    # Both dicts are in ascending order, so the first conflict found is the smallest.
    for lower, value in _lower_bounds(yard, pins).items():
        spans = spans_from(yard, lower[1])
        for upper, limit in uppers.items():
            if _contradict(spans, value, upper, limit):
                return (lower, upper)
    return None


def least_completion(yard, pins):
    """Return the completion with the least place of every wagon."""
    check_no_conflict(yard, pins)
    return tuple([_forced_from_below(yard, pins, wagon) for wagon in range(len(yard[0]))])


def greatest_completion(yard, pins):
    """Return the completion with the greatest place of every wagon."""
    check_no_conflict(yard, pins)
    return tuple([_forced_from_above(yard, pins, wagon) for wagon in range(len(yard[0]))])


def is_completion(yard, pins, value):
    """Return whether a value of any kind is a completion of the pins."""
    validate_pins(yard, pins)
    if not is_arrangement(yard, value):
        return False
    return all([value[wagon] == place for wagon, place in pins])


def check_pins(yard, value):
    """Raise InvalidPins if a value is not pins of a valid yard."""
    if not isinstance(value, tuple):
        raise InvalidPins(None)
    before = -1
    for index, pin in enumerate(value):
        if not _is_pin(yard, pin) or pin[0] <= before:
            raise InvalidPins(index)
        before = pin[0]


def check_no_conflict(yard, pins):
    """Raise Conflicting with the smallest conflict of the pins, if there is one."""
    conflict = conflict_of(yard, pins)
    if conflict is not None:
        raise Conflicting(conflict)


def _is_pin(yard, value):
    if not is_tuple_of(value, 2):
        return False
    wagon, place = value
    if not is_integer_from(wagon, 0, len(yard[0]) - 1):
        return False
    return is_integer_from(place, -MOST_PLACE, MOST_PLACE)


def _lower_bounds(yard, pins):
    """Map each lower bound to its value, in ascending order of the bounds."""
    return _bounds(pins, [low for low, _ in yard[0]])


def _upper_bounds(yard, pins):
    """Map each upper bound to its value, in ascending order of the bounds."""
    return _bounds(pins, [high for _, high in yard[0]])


def _bounds(pins, walls):
    bounds = {("pin", wagon): place for wagon, place in pins}
    for wagon, place in enumerate(walls):
        bounds[("wall", wagon)] = place
    return bounds


def _is_one_of(value, bounds):
    # The kinds come first: a value of another kind may equal a bound, or have no hash.
    if not is_tuple_of(value, 2) or not isinstance(value[0], str):
        return False
    return is_integer_from(value[1], 0, MOST_WAGONS - 1) and value in bounds


def _contradict(spans, value, upper, limit):
    """Return whether a lower bound forces more than the limit of an upper bound.

    The lower bound is given by its value and by the spans from its wagon.
    """
    wagon = upper[1]
    return wagon in spans and value + spans[wagon][0] > limit


def _forced_from_below(yard, pins, wagon):
    # The span to a wagon is the one back with both signs and both ends exchanged.
    spans = spans_from(yard, wagon)
    bounds = _lower_bounds(yard, pins)
    return max([value - spans[there][1] for (_, there), value in bounds.items() if there in spans])


def _forced_from_above(yard, pins, wagon):
    spans = spans_from(yard, wagon)
    bounds = _upper_bounds(yard, pins)
    return min([value - spans[there][0] for (_, there), value in bounds.items() if there in spans])
