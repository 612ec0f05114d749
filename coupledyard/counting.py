"""Counting: how many arrangements and schedules there are, and numbers for arrangements."""

from itertools import accumulate

from coupledyard.arrangements import check_arrangement, distance, validate_arrangement
from coupledyard.errors import InvalidNumber, TooLarge
from coupledyard.pins import conflict_of, greatest_completion, least_completion
from coupledyard.steps import holder, stepped
from coupledyard.yards import groups, is_integer_from, neighbours_of, next_towards, spans_from

MOST_WIDTH = 1000
MOST_STATES = 20000


def count_arrangements(yard, *, pins=()):
    """Return the number of completions of the pins."""
    conflict = conflict_of(yard, pins)
    _check_width(yard)
    if conflict is not None:
        return 0
    bounds = list(yard[0])
    for wagon, place in pins:
        bounds[wagon] = (place, place)
    total = 1
    for group in groups(yard):
        total *= sum(_counts_at(yard, bounds, group[0]))
    return total


def arrangements(yard, *, pins=()):
    """Yield the completions of the pins in ascending order."""
    if conflict_of(yard, pins) is not None:
        return
    places = least_completion(yard, pins)
    bounds = list(zip(places, greatest_completion(yard, pins)))
    spans = [spans_from(yard, wagon) for wagon in range(len(places))]
    while places is not None:
        yield places
        places = _next_places(places, bounds, spans)


def arrangement_at(yard, number):
    """Return the arrangement with a number."""
    left = count_arrangements(yard)
    if not is_integer_from(number, 0, left - 1):
        raise InvalidNumber(number)
    bounds = list(yard[0])
    rest = number
    for wagon, (low, _) in enumerate(yard[0]):
        counts = _counts_at(yard, bounds, wagon)
        # What is left after this are the choices of the wagons of other groups.
        left //= sum(counts)
        at = 0
        while rest >= counts[at] * left:
            rest -= counts[at] * left
            at += 1
        left *= counts[at]
        bounds[wagon] = (low + at, low + at)
    return tuple([place for place, _ in bounds])


def number_of(yard, arrangement):
    """Return the number of an arrangement."""
    validate_arrangement(yard, arrangement)
    left = count_arrangements(yard)
    bounds = list(yard[0])
    number = 0
    for wagon, place in enumerate(arrangement):
        counts = _counts_at(yard, bounds, wagon)
        left //= sum(counts)
        at = place - bounds[wagon][0]
        number += sum(counts[:at]) * left
        left *= counts[at]
        bounds[wagon] = (place, place)
    return number


def count_schedules(yard, start, goal):
    """Return the number of shortest schedules from one arrangement to another one."""
    validate_arrangement(yard, start)
    check_arrangement(yard, goal)
    states = 1
    for here, there in zip(start, goal):
        states *= 1 + abs(there - here)
    if states > MOST_STATES:
        raise TooLarge(MOST_STATES)
    neighbours = neighbours_of(yard)
    ways = {start: 1}
    for _ in range(distance(yard, start, goal)):
        ways = _ways_one_step_on(neighbours, ways, goal)
    return ways[goal]


def _check_width(yard):
    for low, high in yard[0]:
        if high - low > MOST_WIDTH:
            raise TooLarge(MOST_WIDTH)


def _counts_at(yard, bounds, wagon):
    """Return, for each place of a wagon within its bounds, in how many ways its group fits.

    All wagons of the group stay within their bounds.
    """
    neighbours = neighbours_of(yard)
    following = next_towards(yard, wagon)
    counts = {other: [1] * (bounds[other][1] - bounds[other][0] + 1) for other in following}
    # The farthest wagons come first, so each has the choices of those behind it.
    for other, nearer in list(following.items())[::-1]:
        if nearer is not None:
            ways = _ways_behind(
                counts[other], bounds[other][0], bounds[nearer], neighbours[nearer][other])
            counts[nearer] = [count * more for count, more in zip(counts[nearer], ways)]
    return counts[wagon]


def _ways_behind(counts, low, bounds, span):
    """Return, for each place of a wagon within its bounds, the sum over the places in the span.

    The counts are those of the places from low on.
    """
    sums = [0] + list(accumulate(counts))
    width = bounds[1] - bounds[0] + 1
    before_first = _part(sums, bounds[0] + span[0] - low, width)
    until_last = _part(sums, bounds[0] + span[1] - low + 1, width)
    return [more - less for more, less in zip(until_last, before_first)]


def _part(sums, first, width):
    """Return so many sums from an index on. It may be far off: beyond its ends a sum stays."""
    front = [sums[0]] * min(max(-first, 0), width)
    middle = sums[max(first, 0):max(first + width, 0)]
    back = [sums[-1]] * (width - len(front) - len(middle))
    return front + middle + back


def _next_places(places, bounds, spans):
    """Return the next completion in ascending order, or None behind the last one."""
    for wagon in reversed(range(len(places))):
        _, greatest = _choices(places[:wagon], bounds, spans)
        if places[wagon] < greatest:
            begun = list(places[:wagon]) + [places[wagon] + 1]
            while len(begun) < len(places):
                least, _ = _choices(begun, bounds, spans)
                begun.append(least)
            return tuple(begun)
    return None


def _choices(begun, bounds, spans):
    """Return the least and the greatest place of the next wagon behind those with places.

    If the bounds are what the pins and walls force, all places between lead to a completion.
    """
    wagon = len(begun)
    least, greatest = bounds[wagon]
    for other, place in enumerate(begun):
        if wagon in spans[other]:
            least = max(least, place + spans[other][wagon][0])
            greatest = min(greatest, place + spans[other][wagon][1])
    return (least, greatest)


def _ways_one_step_on(neighbours, ways, goal):
    """Map each arrangement one step nearer to the goal to the number of ways to it."""
    later = {}
    for places, count in ways.items():
        for wagon, there in enumerate(goal):
            sign = 1 if places[wagon] < there else -1
            if places[wagon] != there and holder(neighbours, places, wagon, sign) is None:
                new = stepped(places, wagon, sign)
                later[new] = later.get(new, 0) + count
    return later
