"""Drags: one wagon is moved to a place, and the others follow as little as possible."""

from coupledyard.arrangements import distance, validate_arrangement
from coupledyard.errors import InvalidDrag, InvalidPlace, OutOfReach
from coupledyard.steps import check_step
from coupledyard.yards import MOST_PLACE, check_wagon, is_integer_from, is_tuple_of, spans_from


def dragged(yard, arrangement, wagon, place):
    """Return the arrangement after the drag of a wagon to a place."""
    return dragged_all(yard, arrangement, (wagon, place))


def dragged_all(yard, arrangement, *drags):
    """Return the arrangement after several drags, one after the other."""
    validate_arrangement(yard, arrangement)
    for index, drag in enumerate(drags):
        if not is_tuple_of(drag, 2):
            raise InvalidDrag(index)
    places = arrangement
    for wagon, place in drags:
        check_wagon(yard, wagon)
        _check_place(place)
        places = _after_drag(yard, places, wagon, place)
    return places


def pushed(yard, arrangement, step):
    """Return the wagons that a step pushes, in ascending order."""
    validate_arrangement(yard, arrangement)
    check_step(yard, step)
    wagon, sign = step
    places = _after_drag(yard, arrangement, wagon, arrangement[wagon] + sign)
    return tuple([other for other, old in enumerate(arrangement) if places[other] != old])


def drag_distance(yard, arrangement, wagon, place):
    """Return the distance from an arrangement to the one after a drag."""
    return distance(yard, arrangement, dragged(yard, arrangement, wagon, place))


def _check_place(value):
    if not is_integer_from(value, -MOST_PLACE, MOST_PLACE):
        raise InvalidPlace(value)


def _after_drag(yard, arrangement, wagon, place):
    spans = spans_from(yard, wagon)
    forwards = place >= arrangement[wagon]
    places = list(arrangement)
    # The smallest wagon out of reach is reported, so the wagons come in ascending order.
    for other in sorted(spans):
        least, greatest = spans[other]
        if forwards:
            places[other] = max(places[other], place + least)
        else:
            places[other] = min(places[other], place + greatest)
        low, high = yard[0][other]
        if not low <= places[other] <= high:
            raise OutOfReach(other)
    return tuple(places)
