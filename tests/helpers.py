"""What the tests of several files share."""

import itertools
import unittest

Y = (((0, 9), (0, 9), (0, 9)), ((0, 1, 1, 2), (1, 2, 1, 2)))

# Three groups: 0-2-4 and 1-3 with couplings in both directions along a path, and 5 alone.
FOREST = (
    ((0, 50),) * 6,
    ((0, 2, 1, 3), (1, 3, -7, 5), (2, 4, -2, 10)),
)


def nested(depth):
    value = ()
    for _ in range(depth):
        value = (value,)
    return value


# Values of other kinds than tuples and integers, or of these kinds in no useful form.
OTHER_KINDS = [
    None, True, False, "", "wagon", b"", b"yard", [], [0], {}, {0: 1}, set(), {1}, frozenset(),
    object(), len, int, 1j, range(3), iter([]), Ellipsis, nested(20), [[[0]]], {"walls": ()},
]


def all_arrangements(yard):
    """All arrangements of a small yard, straight from 4.1."""
    ranges = [range(low, high + 1) for low, high in yard[0]]
    return [
        places for places in itertools.product(*ranges)
        if all(least <= places[j] - places[i] <= greatest for i, j, least, greatest in yard[1])
    ]


class YardTestCase(unittest.TestCase):
    def assert_error(self, expected, function, *args, **keywords):
        """Assert that a call raises an error of the very class and with the very fields."""
        with self.assertRaises(type(expected)) as caught:
            function(*args, **keywords)
        self.assertIs(type(caught.exception), type(expected))
        # True equals 1, so the texts are compared, too.
        self.assertEqual(repr(vars(caught.exception)), repr(vars(expected)))
        self.assertEqual(vars(caught.exception), vars(expected))
