"""Links: couplings of several kinds, described by what they are for."""

from coupledyard.errors import InvalidYard
from coupledyard.yards import (
    MOST_DIFFERENCE, MOST_WAGONS, is_integer_from, make_yard, validate_yard,
)


class Link:
    """A link of two wagons with any bounds."""

    kind = "link"

    def __init__(self, i, j, least, greatest):
        self._coupling = (i, j, least, greatest)

    def coupling(self):
        """Return the coupling that the link describes."""
        return self._coupling

    @property
    def pair(self):
        """The two wagons."""
        return self._coupling[:2]

    @staticmethod
    def opposite(link):
        """Return the link that allows the negatives of the places that a link allows."""
        i, j, least, greatest = link.coupling()
        return Link(i, j, -greatest, -least)


class Bar(Link):
    """Two wagons that keep a difference, or one place more."""

    kind = "bar"

    def __init__(self, i, j, difference):
        super().__init__(i, j, difference, difference + 1)


class Chain(Link):
    """Two wagons that are at most a length apart, in either direction."""

    kind = "chain"

    def __init__(self, i, j, length):
        super().__init__(i, j, -length, length)


class Buffer(Link):
    """Two wagons of which the second one is at least a gap ahead."""

    kind = "buffer"

    def __init__(self, i, j, gap):
        super().__init__(i, j, gap, MOST_DIFFERENCE)


def yard_of(*links, count, low=0, high=1000):
    """Return the yard with equal walls and the couplings of the links."""
    # The walls are judged before the couplings, as in every yard.
    if not is_integer_from(count, 1, MOST_WAGONS):
        raise InvalidYard("walls", None)
    validate_yard((((low, high),) * count, ()))
    couplings = [link.coupling() for link in links]
    return make_yard(count, *couplings, low=low, high=high)
