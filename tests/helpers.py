"""What the tests of several files share."""

import itertools
import random
import unittest

from coupledyard.errors import InvalidArrangement, InvalidPins, InvalidYard

BIG = 10 ** 999
MOST = 10 ** 9

Y = (((0, 9), (0, 9), (0, 9)), ((0, 1, 1, 2), (1, 2, 1, 2)))

# Three groups: 0-2-4 and 1-3 with couplings in both directions along a path, and 5 alone.
FOREST = (
    ((0, 50),) * 6,
    ((0, 2, 1, 3), (1, 3, -7, 5), (2, 4, -2, 10)),
)

# One wagon that 39 others hold, and a train of 40 wagons.
STAR = (((0, 100),) * 40, tuple((0, j, 0, 5) for j in range(1, 40)))
CHAIN = (((0, 5000),) * 40, tuple((i, i + 1, 1, 2) for i in range(39)))

# Small yards of many forms, of which every arrangement can be looked at.
SMALL_YARDS = [
    Y,
    (((-2, 2),), ()),
    (((4, 4),), ()),
    (((0, 3), (-2, 2)), ()),
    (((0, 4), (0, 4), (0, 4)), ((0, 1, -1, 1), (0, 2, -2, 0))),
    (((0, 3), (0, 3), (0, 3), (0, 3)), ((0, 3, -1, 1), (1, 3, -1, 0), (2, 3, 0, 1))),
    (((0, 5), (2, 4), (1, 6)), ((0, 2, -1, 2), (1, 2, -2, 3))),
    (((0, 2), (0, 2), (0, 4)), ((0, 2, 1, 3),)),
]

# Yards that have no arrangement.
EMPTY_YARDS = [
    (((0, 3), (0, 3)), ((0, 1, 4, 9),)),
    (((5, 9), (0, 3), (0, 9)), ((0, 1, 0, 1), (1, 2, -9, 9))),
    (((0, 2), (0, 9), (0, 2)), ((0, 1, 2, 3), (1, 2, 1, 2))),
]


def nested(depth):
    value = ()
    for _ in range(depth):
        value = (value,)
    return value


# Values of other kinds than tuples and integers, or of these kinds in no useful form.
OTHER_KINDS = [
    None, True, False, "", "wagon", b"", b"yard", [], [0], {}, {0: 1}, set(), {1}, frozenset(),
    object(), len, int, 1j, range(3), iter([]), Ellipsis, nested(20), [[[0]]], {"walls": ()},
]

# Values that are not wagons of Y.
NO_WAGONS = OTHER_KINDS + [-1, 3, BIG, -BIG, "0", (0,), [0], (0, 1)]

# Values that are not places.
NO_PLACES = OTHER_KINDS + [MOST + 1, -MOST - 1, BIG, -BIG, "5", (5,), [5]]

# Values that are not steps of Y.
NO_STEPS = OTHER_KINDS + [
    [0, 1], (0,), (0, 1, 1), "01", (0, 0), (0, 2), (0, -2), (0, True), (True, 1), (False, 1),
    (0, None), (None, 1), (0, "1"), ("0", 1), (3, 1), (-1, 1), (BIG, 1), (0, BIG), (0, -BIG),
    ([0], 1), (0, [1]), ((0,), 1), (0, (1,)), ((0, 1),), {0: 1, 1: 1},
]

# Values that are not pins of Y, one item of the tuple.
NO_PINS = OTHER_KINDS + [
    [0, 1], (0,), (0, 1, 2), "01", (True, 1), (0, True), (0, None), (None, 0), ("0", 0), (0, "0"),
    (3, 0), (-1, 0), (BIG, 0), (0, BIG), (0, -BIG), (0, MOST + 1), (0, -MOST - 1), (0, [1]), ([0], 1),
    ((0, 1),), {0: 1, 1: 2},
]

# Values that are not yards, with the part and the index of the error.
NO_YARDS = [
    (value, "form", None) for value in OTHER_KINDS
] + [
    (list(Y), "form", None),
    ((Y[0],), "form", None),
    (([], ()), "walls", None),
    (((), ()), "walls", None),
    ((((0, 9),) * 41, ()), "walls", None),
    ((((0, 9), (9, 0)), ()), "walls", 1),
    ((((0, True),), None), "walls", 0),
    ((Y[0], []), "couplings", None),
    ((Y[0], (None,)), "couplings", 0),
    ((Y[0], ((0, 1, 2, 2),)), "couplings", 0),
    ((Y[0], ((0, 1, 1, 2), (0, 2, 1, 2), (1, 2, 1, 2))), "couplings", 2),
]

# Values that are not pins of Y, with the index of the error.
NO_TUPLES_OF_PINS = [
    (value, None) for value in OTHER_KINDS if not isinstance(value, tuple)
] + [
    ([(0, 1)], None), ({0: 1}, None), ("01", None), (3, None),
    ((0, 1), 0), (((0, 1), [1, 2]), 1), (((0, 1), (0, 1)), 1), (((1, 2), (0, 1)), 1),
    (((0, 99), (1, -99), (3, 0)), 2), (((0, 1), (1, MOST + 1), None), 1),
]

# Values that are not arrangements of Y, with the part and the index of the error.
NO_ARRANGEMENTS = [
    (value, "form", None) for value in OTHER_KINDS
] + [
    ([0, 1, 2], "form", None),
    ((0, 1), "form", None),
    ((0, 1, 2, 3), "form", None),
    ((None, 1, 2), "places", 0),
    ((0, True, 2), "places", 1),
    ((0, 1, [2]), "places", 2),
    ((8, 9, 10), "places", 2),
    ((0, 0, 0), "couplings", 0),
    ((0, 1, 4), "couplings", 1),
]


def first_of(generator):
    """Return a function that requests the first result of a generator function."""
    return lambda *args, **keywords: next(generator(*args, **keywords), None)


def all_arrangements(yard):
    """All arrangements of a small yard, straight from 4.1."""
    ranges = [range(low, high + 1) for low, high in yard[0]]
    return [
        places for places in itertools.product(*ranges)
        if all(least <= places[j] - places[i] <= greatest for i, j, least, greatest in yard[1])
    ]


def completions(yard, pins):
    """All completions, straight from 7.1."""
    return [
        places for places in all_arrangements(yard)
        if all(places[wagon] == place for wagon, place in pins)
    ]


def moved(places, step):
    wagon, sign = step
    return places[:wagon] + (places[wagon] + sign,) + places[wagon + 1:]


def all_steps(yard):
    return [(wagon, sign) for wagon in range(len(yard[0])) for sign in (-1, 1)]


def drawn_tree(seed, count, reach):
    """A yard of so many wagons and an arrangement of it, both drawn as the seed says.

    The walls are up to `reach` away from the places, and so are the bounds of the couplings
    from the differences; many are much nearer.
    """
    draw = random.Random(seed)
    places = [draw.randint(-reach, reach) for _ in range(count)]
    walls = []
    for place in places:
        near = draw.choice((1, reach))
        walls.append((place - draw.randint(0, near), place + draw.randint(0, near)))
    couplings = []
    for j in range(1, count):
        i = draw.randrange(j)
        near = draw.choice((1, reach))
        least = places[j] - places[i] - draw.randint(0, near)
        couplings.append((i, j, least, max(least + 1, places[j] - places[i] + draw.randint(0, near))))
    return (tuple(walls), tuple(sorted(couplings))), tuple(places)


class YardTestCase(unittest.TestCase):
    def assert_error(self, expected, function, *args, **keywords):
        """Assert that a call raises an error of the very class and with the very fields."""
        with self.assertRaises(type(expected)) as caught:
            function(*args, **keywords)
        self.assertIs(type(caught.exception), type(expected))
        # True equals 1, so the texts are compared, too.
        self.assertEqual(repr(vars(caught.exception)), repr(vars(expected)))
        self.assertEqual(vars(caught.exception), vars(expected))

    def assert_yard_errors(self, function, others, **keywords):
        """Assert the errors of a yard, with other arguments that are wrong, too."""
        for value, part, index in NO_YARDS:
            with self.subTest(yard=str(value)[:60]):
                self.assert_error(InvalidYard(part, index), function, value, *others, **keywords)

    def assert_pins_errors(self, function, before, **keywords):
        """Assert the errors of the keyword-only pins behind the arguments before them."""
        for value, index in NO_TUPLES_OF_PINS:
            with self.subTest(pins=str(value)[:60]):
                self.assert_error(InvalidPins(index), function, *before, pins=value, **keywords)

    def assert_arrangement_errors(self, function, before, others, **keywords):
        """Assert the errors of an arrangement of Y behind the arguments before it."""
        for value, part, index in NO_ARRANGEMENTS:
            with self.subTest(arrangement=str(value)[:60]):
                self.assert_error(
                    InvalidArrangement(part, index), function, *before, value, *others, **keywords)
