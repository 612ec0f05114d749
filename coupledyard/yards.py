"""Yards: walls and couplings, and what follows from the couplings alone."""

from coupledyard.errors import InvalidWagon, InvalidYard, NotConnected

MOST_WAGONS = 40
MOST_PLACE = 10 ** 9
MOST_DIFFERENCE = 10 ** 10


def is_integer(value):
    """Return whether a value of any kind is an integer."""
    return isinstance(value, int) and not isinstance(value, bool)


def is_integer_from(value, low, high):
    """Return whether a value of any kind is an integer from low to high."""
    return is_integer(value) and low <= value <= high


def is_tuple_of(value, count):
    """Return whether a value of any kind is a tuple of so many items."""
    return isinstance(value, tuple) and len(value) == count


def validate_yard(yard):
    """Raise InvalidYard for the first violation if a value is not a yard."""
    if not is_tuple_of(yard, 2):
        raise InvalidYard("form", None)
    walls, couplings = yard
    _check_pairs(walls)
    _check_couplings(couplings, len(walls))


def is_yard(value):
    """Return whether a value of any kind is a yard."""
    try:
        validate_yard(value)
    except InvalidYard:
        return False
    return True


def make_yard(count, *couplings, low=0, high=1000):
    """Return the yard with equal walls and the couplings in their order."""
    ordered = tuple(sorted(couplings, key=_integers_in_front))
    # Only the couplings are judged: InvalidYard is promised for nothing else here.
    _check_couplings(ordered, count)
    return (((low, high),) * count, ordered)


def check_wagon(yard, wagon):
    """Raise InvalidWagon if a value is not a wagon of a valid yard."""
    if not is_integer_from(wagon, 0, len(yard[0]) - 1):
        raise InvalidWagon(wagon)


def neighbours_of(yard):
    """Return, for each wagon of a valid yard, the spans to the wagons coupled with it.

    Each is a dict in the order of the couplings.
    """
    neighbours = [{} for _ in yard[0]]
    for i, j, least, greatest in yard[1]:
        neighbours[i][j] = (least, greatest)
        neighbours[j][i] = (-greatest, -least)
    return neighbours


def next_towards(yard, target):
    """Map each wagon connected with the target to the next one on its path there.

    The target itself has None. The dict has the nearer wagons first.
    """
    neighbours = neighbours_of(yard)
    following = {target: None}
    waiting = [target]
    while waiting:
        reached = waiting.pop()
        for wagon in neighbours[reached]:
            if wagon not in following:
                following[wagon] = reached
                waiting.append(wagon)
    return following


def spans_from(yard, wagon):
    """Map each wagon connected with a wagon of a valid yard to the span there from it."""
    neighbours = neighbours_of(yard)
    following = next_towards(yard, wagon)
    spans = {wagon: (0, 0)}
    # The nearer wagons come first, so the span to the one before is known.
    for other, nearer in following.items():
        if other != wagon:
            least, greatest = neighbours[nearer][other]
            spans[other] = (spans[nearer][0] + least, spans[nearer][1] + greatest)
    return spans


def are_connected(yard, wagon, other):
    """Return whether two wagons are connected."""
    _check_two_wagons(yard, wagon, other)
    return wagon in next_towards(yard, other)


def path(yard, wagon, other):
    """Return the wagons on the path from one wagon to another one."""
    _check_two_wagons(yard, wagon, other)
    following = next_towards(yard, other)
    if wagon not in following:
        raise NotConnected((wagon, other))
    way = [wagon]
    while way[-1] != other:
        way.append(following[way[-1]])
    return tuple(way)


def span(yard, wagon, other):
    """Return the span from one wagon to another one."""
    _check_two_wagons(yard, wagon, other)
    spans = spans_from(yard, wagon)
    if other not in spans:
        raise NotConnected((wagon, other))
    return spans[other]


def groups(yard):
    """Return the sets of connected wagons as ascending tuples, in ascending order."""
    validate_yard(yard)
    found = []
    for wagon in range(len(yard[0])):
        group = tuple(sorted(next_towards(yard, wagon)))
        # Every wagon leads to its group; it is taken once, from its smallest one.
        if group[0] == wagon:
            found.append(group)
    return tuple(found)


def _check_pairs(walls):
    if not isinstance(walls, tuple) or not 1 <= len(walls) <= MOST_WAGONS:
        raise InvalidYard("walls", None)
    for index, pair in enumerate(walls):
        if not _is_pair_of_places(pair):
            raise InvalidYard("walls", index)


def _is_pair_of_places(value):
    if not is_tuple_of(value, 2):
        return False
    for item in value:
        if not is_integer_from(item, -MOST_PLACE, MOST_PLACE):
            return False
    return value[0] <= value[1]


def _check_couplings(couplings, count):
    if not isinstance(couplings, tuple):
        raise InvalidYard("couplings", None)
    labels = list(range(count))
    before = ()
    for index, coupling in enumerate(couplings):
        if not _is_coupling(coupling, count):
            raise InvalidYard("couplings", index)
        pair = coupling[:2]
        i, j = pair
        # Wagons with equal labels are connected already, so a ring would close.
        if pair <= before or labels[i] == labels[j]:
            raise InvalidYard("couplings", index)
        labels = _joined(labels, labels[i], labels[j])
        before = pair


def _is_coupling(value, count):
    if not is_tuple_of(value, 4):
        return False
    i, j, least, greatest = value
    for wagon in (i, j):
        if not is_integer_from(wagon, 0, count - 1):
            return False
    for bound in (least, greatest):
        if not is_integer_from(bound, -MOST_DIFFERENCE, MOST_DIFFERENCE):
            return False
    return i < j and least < greatest


def _joined(labels, kept, dropped):
    return [kept if label == dropped else label for label in labels]


def _integers_in_front(value):
    # Tuples of integers come in Python's order of tuples. Arguments of other kinds,
    # which Python might not compare, get a place too, so that InvalidYard can name it.
    front = []
    if isinstance(value, tuple):
        for item in value:
            if not isinstance(item, int):
                break
            front.append(item)
    return tuple(front)


def _check_two_wagons(yard, wagon, other):
    validate_yard(yard)
    check_wagon(yard, wagon)
    check_wagon(yard, other)
