"""Nearest arrangements: the least cost for given targets, and forces that prove it."""

from coupledyard.arrangements import validate_arrangement
from coupledyard.errors import InvalidForces, InvalidTargets, InvalidWeights, NotHeld
from coupledyard.pins import check_no_conflict, check_pins
from coupledyard.yards import (
    MOST_PLACE, groups, is_integer, is_integer_from, is_tuple_of, neighbours_of, next_towards,
    validate_yard,
)

MOST_WEIGHT = 1000
# Greater than 40 times the greatest weight. A place beyond a wall costs so much that going
# back by one place is worth it, even if every wagon moves away from its target for that.
WALL_WEIGHT = 1000000
# Forces hold without a load beyond this: no force has to be greater than all weights together.
MOST_LOAD = 1000000000


def cost(yard, arrangement, targets, *, weights=None):
    """Return the cost of an arrangement."""
    validate_arrangement(yard, arrangement)
    _check_targets(yard, targets)
    return _cost(arrangement, targets, _valid_weights(yard, weights))


def nearest(yard, targets, *, weights=None, pins=()):
    """Return the least nearest arrangement."""
    validate_yard(yard)
    _check_targets(yard, targets)
    valid_weights = _valid_weights(yard, weights)
    # This judges the pins themselves, too.
    check_no_conflict(yard, pins)
    return _least_nearest(yard, _turns_of_wagons(yard, targets, valid_weights, pins))


def forces(yard, targets, *, weights=None, pins=()):
    """Return forces that hold the least nearest arrangement."""
    places = nearest(yard, targets, weights=weights, pins=pins)
    limits = _load_limits(yard, places, targets, _valid_weights(yard, weights), pins)
    order = _nearer_first(yard)
    flows = _flows(order, _flow_ranges(yard, places, order), limits)
    nearer = {wagon: before for wagon, before in order}
    # What a coupling adds to the load of its second wagon is its force.
    return tuple([flows[j] if nearer[j] == i else -flows[i] for i, j, _, _ in yard[1]])


def check_forces(yard, arrangement, targets, forces, *, weights=None, pins=()):
    """Return the cost of an arrangement that the forces hold, or raise NotHeld."""
    validate_arrangement(yard, arrangement)
    _check_targets(yard, targets)
    _check_amounts(yard, forces)
    valid_weights = _valid_weights(yard, weights)
    check_pins(yard, pins)
    if any([arrangement[wagon] != place for wagon, place in pins]):
        raise NotHeld("pins")
    for (i, j, least, greatest), force in zip(yard[1], forces):
        difference = arrangement[j] - arrangement[i]
        if (force > 0 and difference != least) or (force < 0 and difference != greatest):
            raise NotHeld("couplings")
    limits = _load_limits(yard, arrangement, targets, valid_weights, pins)
    for load, (least, greatest) in zip(_loads(yard, forces), limits):
        if (least is not None and load < least) or (greatest is not None and load > greatest):
            raise NotHeld("wagons")
    return _cost(arrangement, targets, valid_weights)


def _check_targets(yard, value):
    if not is_tuple_of(value, len(yard[0])):
        raise InvalidTargets(None)
    for index, target in enumerate(value):
        if not is_integer_from(target, -MOST_PLACE, MOST_PLACE):
            raise InvalidTargets(index)


def _valid_weights(yard, value):
    """Return the weights, one for each wagon, or raise InvalidWeights."""
    if value is None:
        return (1,) * len(yard[0])
    if not is_tuple_of(value, len(yard[0])):
        raise InvalidWeights(None)
    for index, weight in enumerate(value):
        if not is_integer_from(weight, 0, MOST_WEIGHT):
            raise InvalidWeights(index)
    return value


def _check_amounts(yard, value):
    if not is_tuple_of(value, len(yard[1])):
        raise InvalidForces(None)
    for index, force in enumerate(value):
        if not is_integer(force):
            raise InvalidForces(index)


def _cost(places, targets, weights):
    return sum([
        weight * abs(place - target) for place, target, weight in zip(places, targets, weights)
    ])


def _nearer_first(yard):
    """Return each wagon with the next one towards the smallest wagon of its group.

    That wagon stands before it. The smallest wagon of a group has None.
    """
    order = []
    for group in groups(yard):
        order.extend(list(next_towards(yard, group[0]).items()))
    return order


def _turns_of_wagons(yard, targets, weights, pins):
    """Return, for each wagon, the turns of its own cost: pairs of a place and a rise.

    The slope of the cost, as the place grows, rises by so much there. Its first value is
    the negative half of all rises together, and its last value is the positive half.
    """
    bounds = list(yard[0])
    for wagon, place in pins:
        bounds[wagon] = (place, place)
    return [
        [(low, WALL_WEIGHT), (target, 2 * weight), (high, WALL_WEIGHT)]
        for (low, high), target, weight in zip(bounds, targets, weights)
    ]


def _least_nearest(yard, own_turns):
    """Return the least places with the least cost, given the turns of each wagon's own cost."""
    neighbours = neighbours_of(yard)
    order = _nearer_first(yard)
    turns = [list(row) for row in own_turns]
    places = [0] * len(turns)
    # First, each wagon's best place for itself and all wagons behind it.
    for wagon, nearer in order[::-1]:
        falling, rising = _split(turns[wagon])
        places[wagon] = falling[-1][0]
        if nearer is not None:
            least, greatest = neighbours[nearer][wagon]
            turns[nearer].extend([(place - greatest, rise) for place, rise in falling])
            turns[nearer].extend([(place - least, rise) for place, rise in rising])
    # Then the nearest to it that the coupling with the wagon ahead of it allows: the cost
    # only grows from the best place on, in either direction.
    for wagon, nearer in order:
        if nearer is not None:
            least, greatest = neighbours[nearer][wagon]
            places[wagon] = max(places[wagon], places[nearer] + least)
            places[wagon] = min(places[wagon], places[nearer] + greatest)
    return tuple(places)


def _split(turns):
    """Return the turns up to the slope 0 and those from it on, both in ascending order.

    The last one of the former is at the least place with the least cost.
    """
    falling = []
    rising = []
    missing = sum([rise for _, rise in turns]) // 2
    for place, rise in sorted(turns):
        below = min(rise, missing)
        missing -= below
        if below > 0:
            falling.append((place, below))
        if rise > below:
            rising.append((place, rise - below))
    return (falling, rising)


def _load_limits(yard, places, targets, weights, pins):
    """Return the least and the greatest load of each wagon, each None if there is none."""
    limits = []
    for (low, high), place, target, weight in zip(yard[0], places, targets, weights):
        least = weight if place > target else -weight
        greatest = -weight if place < target else weight
        limits.append((None if place == low else least, None if place == high else greatest))
    for wagon, _ in pins:
        limits[wagon] = (None, None)
    return limits


def _loads(yard, amounts):
    loads = [0] * len(yard[0])
    for (i, j, _, _), force in zip(yard[1], amounts):
        loads[i] -= force
        loads[j] += force
    return loads


def _flow_ranges(yard, places, order):
    """Return the least and greatest flow of each wagon by the first condition of 9.3.

    The flow is what the coupling with the next nearer wagon adds to its load.
    """
    neighbours = neighbours_of(yard)
    ranges = [(0, 0)] * len(places)
    for wagon, nearer in order:
        if nearer is not None:
            least, greatest = neighbours[nearer][wagon]
            difference = places[wagon] - places[nearer]
            ranges[wagon] = (
                -MOST_LOAD if difference == greatest else 0,
                MOST_LOAD if difference == least else 0,
            )
    return ranges


def _flows(order, ranges, limits):
    """Return a flow of each wagon, so that every load is within its limits."""
    bottoms = [-MOST_LOAD if least is None else least for least, _ in limits]
    tops = [MOST_LOAD if greatest is None else greatest for _, greatest in limits]
    lows = [0] * len(order)
    highs = [0] * len(order)
    # What comes into a wagon is its load and what it hands on to those behind it.
    for wagon, nearer in order[::-1]:
        if nearer is not None:
            lows[wagon] = max(bottoms[wagon], ranges[wagon][0])
            highs[wagon] = min(tops[wagon], ranges[wagon][1])
            bottoms[nearer] += lows[wagon]
            tops[nearer] += highs[wagon]
    flows = [0] * len(order)
    for wagon, nearer in order:
        if nearer is not None:
            # The load and the others behind the same wagon can take the rest, and no more.
            least = max(lows[wagon], highs[wagon] + flows[nearer] - tops[nearer])
            greatest = min(highs[wagon], lows[wagon] + flows[nearer] - bottoms[nearer])
            flows[wagon] = min(max(0, least), greatest)
            bottoms[nearer] += flows[wagon] - lows[wagon]
            tops[nearer] += flows[wagon] - highs[wagon]
    return flows
