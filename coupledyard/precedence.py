"""Precedence: the order that all shortest schedules share, and the earliest plan."""

from coupledyard.arrangements import distance
from coupledyard.errors import InvalidDurations, TooLarge
from coupledyard.steps import steps_to
from coupledyard.yards import is_integer_from, is_tuple_of, neighbours_of

MOST_EVENTS = 2000
MOST_DURATION = 1000000


def events(yard, start, goal):
    """Yield all events in ascending order."""
    _check_size(yard, start, goal)
    for wagon, (here, there) in enumerate(zip(start, goal)):
        for count in range(abs(there - here)):
            yield (wagon, count + 1)


def predecessors(yard, start, goal):
    """Yield each event with its direct predecessors, in ascending order."""
    _check_size(yard, start, goal)
    neighbours = neighbours_of(yard)
    for event in events(yard, start, goal):
        yield (event, _direct_predecessors(neighbours, start, goal, event))


def is_order(yard, start, goal, value):
    """Return whether a value of any kind has all events, each after its predecessors."""
    if not is_tuple_of(value, _check_size(yard, start, goal)):
        return False
    neighbours = neighbours_of(yard)
    made = [0] * len(start)
    for event in value:
        if not _is_event(start, goal, event) or event[1] != made[event[0]] + 1:
            return False
        for other, count in _direct_predecessors(neighbours, start, goal, event):
            if made[other] < count:
                return False
        made[event[0]] += 1
    return True


def ends(yard, start, goal, *durations):
    """Return, for each wagon, the times when its events end in the earliest plan."""
    times = _times(yard, start, goal, _valid_durations(yard, start, goal, durations))
    found = [[] for _ in start]
    # The events of one wagon come in ascending order.
    for wagon, count in times:
        found[wagon].append(times[(wagon, count)])
    return tuple([tuple(row) for row in found])


def finish(yard, start, goal, *durations):
    """Return the time when the last event ends, or 0 if there is none."""
    times = _times(yard, start, goal, _valid_durations(yard, start, goal, durations))
    return max(times.values(), default=0)


def critical_chain(yard, start, goal, *durations):
    """Return the smallest critical chain."""
    paces = _valid_durations(yard, start, goal, durations)
    times = _times(yard, start, goal, paces)
    if not times:
        return ()
    neighbours = neighbours_of(yard)
    last = max(times.values())
    firsts = []
    following = {}
    # From the last event back, so that it is known which events lead on to the finish.
    for event in list(times)[::-1]:
        if times[event] == last or event in following:
            begin = times[event] - paces[event[0]]
            if begin == 0:
                firsts.append(event)
            for before in _direct_predecessors(neighbours, start, goal, event):
                if times[before] == begin:
                    following[before] = min(event, following.get(before, event))
    chain = [min(firsts)]
    while chain[-1] in following:
        chain.append(following[chain[-1]])
    return tuple(chain)


def _check_size(yard, start, goal):
    """Return the number of events, or raise TooLarge."""
    count = distance(yard, start, goal)
    if count > MOST_EVENTS:
        raise TooLarge(MOST_EVENTS)
    return count


def _valid_durations(yard, start, goal, durations):
    """Return the durations, one for each wagon, or raise an error of the arguments."""
    _check_size(yard, start, goal)
    if not durations:
        return (1,) * len(start)
    if len(durations) != len(start):
        raise InvalidDurations(None)
    for index, duration in enumerate(durations):
        if not is_integer_from(duration, 1, MOST_DURATION):
            raise InvalidDurations(index)
    return durations


def _is_event(start, goal, value):
    if not is_tuple_of(value, 2):
        return False
    wagon, count = value
    if not is_integer_from(wagon, 0, len(start) - 1):
        return False
    return is_integer_from(count, 1, abs(goal[wagon] - start[wagon]))


def _direct_predecessors(neighbours, start, goal, event):
    wagon, count = event
    found = []
    if count > 1:
        found.append((wagon, count - 1))
    for other, (least, greatest) in neighbours[wagon].items():
        # The other wagon has to be so many places farther before the event.
        if goal[wagon] > start[wagon]:
            missing = start[wagon] + count + least - start[other]
        else:
            missing = start[other] - (start[wagon] - count + greatest)
        if missing > 0:
            found.append((other, missing))
    return tuple(sorted(found))


def _times(yard, start, goal, paces):
    """Map each event to its end in the earliest plan, each behind its direct predecessors."""
    neighbours = neighbours_of(yard)
    made = [0] * len(start)
    times = {}
    # The standard schedule is a shortest one, so it is an order of the events.
    for wagon, _ in steps_to(yard, start, goal):
        made[wagon] += 1
        event = (wagon, made[wagon])
        ready = [times[before] for before in _direct_predecessors(neighbours, start, goal, event)]
        times[event] = max(ready, default=0) + paces[wagon]
    return times
