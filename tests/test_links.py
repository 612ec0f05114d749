"""12.1, section 2 for it, and the interface of coupledyard/links.py."""

import inspect
import itertools
import unittest

from coupledyard import links
from coupledyard.errors import InvalidYard
from coupledyard.links import Bar, Buffer, Chain, Link, yard_of
from coupledyard.yards import is_yard, make_yard
from tests.helpers import BIG, MOST, OTHER_KINDS, Y, YardTestCase, all_arrangements

MOST_DIFFERENCE = 10 ** 10


def one_of_each():
    return [Link(0, 1, 2, 3), Bar(0, 1, 4), Chain(0, 1, 3), Buffer(0, 1, 4)]


def allowed(coupling, low, high):
    """All pairs of places from low to high that a coupling of wagons 0 and 1 allows."""
    _, _, least, greatest = coupling
    return {
        places for places in itertools.product(range(low, high + 1), repeat=2)
        if least <= places[1] - places[0] <= greatest
    }


class LinkTest(YardTestCase):
    def test_example(self):
        self.assertEqual(Buffer(0, 1, 4).coupling(), (0, 1, 4, 10000000000))
        self.assertEqual(Link.opposite(Buffer(0, 1, 4)).coupling(), (0, 1, -10000000000, -4))
        self.assertEqual(Buffer(0, 1, 4).kind, "buffer")
        self.assertEqual(Link(0, 1, 2, 3).pair, (0, 1))

    def test_couplings(self):
        for link, coupling in (
            (Link(0, 1, 2, 3), (0, 1, 2, 3)),
            (Link(3, 39, -10 ** 10, 10 ** 10), (3, 39, -10 ** 10, 10 ** 10)),
            (Bar(0, 1, 4), (0, 1, 4, 5)),
            (Bar(2, 5, -1), (2, 5, -1, 0)),
            (Bar(2, 5, 0), (2, 5, 0, 1)),
            (Chain(0, 1, 1), (0, 1, -1, 1)),
            (Chain(4, 9, 250), (4, 9, -250, 250)),
            (Buffer(0, 1, 4), (0, 1, 4, MOST_DIFFERENCE)),
            (Buffer(0, 1, 0), (0, 1, 0, MOST_DIFFERENCE)),
            (Buffer(7, 8, -3), (7, 8, -3, MOST_DIFFERENCE)),
        ):
            with self.subTest(coupling=coupling):
                self.assertEqual(link.coupling(), coupling)
                self.assertIs(type(link.coupling()), tuple)
                self.assertEqual(link.pair, coupling[:2])
                self.assertIs(type(link.pair), tuple)

    def test_kinds(self):
        kinds = ["link", "bar", "chain", "buffer"]
        self.assertEqual([link.kind for link in one_of_each()], kinds)
        # A value of the class, too.
        self.assertEqual([kind.kind for kind in (Link, Bar, Chain, Buffer)], kinds)

    def test_places_that_are_allowed(self):
        for link, rule in (
            (Bar(0, 1, 2), lambda x, y: y - x in (2, 3)),
            (Chain(0, 1, 3), lambda x, y: abs(y - x) <= 3),
            (Buffer(0, 1, 2), lambda x, y: y - x >= 2),
        ):
            expected = {
                places for places in itertools.product(range(-6, 7), repeat=2) if rule(*places)
            }
            self.assertEqual(allowed(link.coupling(), -6, 6), expected)

    def test_classes(self):
        for kind in (Bar, Chain, Buffer):
            self.assertEqual(kind.__bases__, (Link,))
        for name in ("coupling", "pair", "opposite", "kind"):
            self.assertIn(name, vars(Link))
        self.assertIsInstance(vars(Link)["pair"], property)
        self.assertIsInstance(vars(Link)["opposite"], staticmethod)
        for kind, text in (
            (Link, "(i, j, least, greatest)"), (Bar, "(i, j, difference)"),
            (Chain, "(i, j, length)"), (Buffer, "(i, j, gap)"),
        ):
            self.assertEqual(str(inspect.signature(kind)), text)
            self.assertIn("kind", vars(kind))

    def test_parameters_by_name(self):
        self.assertEqual(Link(greatest=3, least=2, j=1, i=0).coupling(), (0, 1, 2, 3))
        self.assertEqual(Bar(difference=4, j=1, i=0).coupling(), (0, 1, 4, 5))
        self.assertEqual(Chain(length=4, j=1, i=0).coupling(), (0, 1, -4, 4))
        self.assertEqual(Buffer(gap=4, j=1, i=0).coupling(), (0, 1, 4, MOST_DIFFERENCE))
        self.assertEqual(Link.opposite(link=Bar(0, 1, 4)).coupling(), (0, 1, -5, -4))


class OppositeTest(YardTestCase):
    def test_of_each_kind(self):
        for link in one_of_each() + [Link(3, 7, -9, 2), Bar(0, 1, -1), Buffer(0, 1, -2)]:
            before = link.coupling()
            opposite = Link.opposite(link)
            self.assertIs(type(opposite), Link)
            self.assertEqual(opposite.kind, "link")
            i, j, least, greatest = before
            self.assertEqual(opposite.coupling(), (i, j, -greatest, -least))
            self.assertEqual(
                allowed(opposite.coupling(), -7, 7),
                {(-x, -y) for x, y in allowed(before, -7, 7)})
            self.assertEqual(link.coupling(), before)
            self.assertEqual(Link.opposite(opposite).coupling(), before)

    def test_is_called_off_other_classes_and_objects(self):
        self.assertEqual(Bar.opposite(Chain(0, 1, 3)).coupling(), (0, 1, -3, 3))
        self.assertEqual(Buffer(0, 1, 2).opposite(Link(0, 2, 5, 9)).coupling(), (0, 2, -9, -5))


class YardOfTest(YardTestCase):
    def test_example(self):
        self.assertEqual(yard_of(Bar(1, 2, 1), Chain(0, 1, 2), count=3, high=9), (
            ((0, 9), (0, 9), (0, 9)), ((0, 1, -2, 2), (1, 2, 1, 2))))

    def test_no_link(self):
        self.assertEqual(yard_of(count=1), (((0, 1000),), ()))
        self.assertEqual(yard_of(count=40), (((0, 1000),) * 40, ()))
        self.assertEqual(yard_of(count=2, low=-7), (((-7, 1000),) * 2, ()))
        self.assertEqual(yard_of(count=2, low=-7, high=-7), (((-7, -7),) * 2, ()))
        self.assertEqual(yard_of(low=-MOST, high=MOST, count=1), (((-MOST, MOST),), ()))

    def test_one_and_several(self):
        self.assertEqual(yard_of(Link(0, 1, 1, 2), count=2), (((0, 1000),) * 2, ((0, 1, 1, 2),)))
        self.assertEqual(yard_of(Bar(0, 1, 1), Bar(1, 2, 1), count=3, high=9), Y)
        self.assertEqual(yard_of(Bar(1, 2, 1), Bar(0, 1, 1), count=3, high=9), Y)

    def test_every_order_of_four_links(self):
        given = [Link(0, 4, 1, 2), Bar(1, 2, -3), Chain(0, 3, 7), Buffer(2, 4, 0)]
        expected = make_yard(5, *[link.coupling() for link in given], low=-5, high=5)
        self.assertTrue(is_yard(expected))
        for order in itertools.permutations(given):
            self.assertEqual(yard_of(*order, count=5, low=-5, high=5), expected)

    def test_forty_wagons(self):
        bars = [Bar(wagon, wagon + 1, 1) for wagon in range(38, -1, -1)]
        yard = yard_of(*bars, count=40)
        self.assertEqual(yard[1], tuple((wagon, wagon + 1, 1, 2) for wagon in range(39)))

    def test_arrangements_of_a_yard_of_links(self):
        yard = yard_of(Chain(0, 1, 1), Buffer(0, 2, 3), count=3, high=4)
        expected = [
            (x, y, z) for x, y, z in itertools.product(range(5), repeat=3)
            if abs(x - y) <= 1 and z - x >= 3
        ]
        self.assertEqual(all_arrangements(yard), expected)

    def test_links_that_close_a_ring(self):
        self.assert_error(
            InvalidYard("couplings", 2), yard_of, Bar(1, 2, 1), Bar(0, 2, 1), Bar(0, 1, 1), count=3)
        self.assert_error(
            InvalidYard("couplings", 1), yard_of, Bar(0, 1, 1), Chain(0, 1, 5), count=3)
        self.assert_error(
            InvalidYard("couplings", 1), yard_of, Bar(0, 1, 1), Bar(0, 1, 1), count=2)

    def test_wagons_that_no_yard_has(self):
        for link in (
            Bar(0, 3, 1), Bar(-1, 2, 1), Bar(1, 1, 1), Bar(2, 1, 1), Bar(0, BIG, 1), Link(None, 1, 1, 2),
            Link(0, True, 1, 2), Link("0", 1, 1, 2), Link(0, (1,), 1, 2), Link([0], 1, 1, 2),
        ):
            self.assert_error(InvalidYard("couplings", 0), yard_of, link, count=3)
        self.assert_error(InvalidYard("couplings", 1), yard_of, Bar(0, 3, 1), Bar(0, 1, 1), count=3)
        self.assert_error(InvalidYard("couplings", 0), yard_of, Bar(0, 1, 1), count=1)

    def test_bounds_that_no_yard_has(self):
        for link in (
            Link(0, 1, 2, 2), Link(0, 1, 3, 2), Chain(0, 1, 0), Chain(0, 1, -2), Buffer(0, 1, 10 ** 10),
            Bar(0, 1, 10 ** 10), Bar(0, 1, -10 ** 10 - 1), Chain(0, 1, 10 ** 10 + 1),
            Link(0, 1, -BIG, BIG), Link(0, 1, None, 2), Link(0, 1, True, 2), Link(0, 1, 1, "2"),
        ):
            self.assert_error(InvalidYard("couplings", 0), yard_of, link, count=3)
        for link in (Chain(0, 1, 10 ** 10), Bar(0, 1, 10 ** 10 - 1), Bar(0, 1, -10 ** 10)):
            self.assertTrue(is_yard(yard_of(link, count=2)))

    def test_walls_that_no_yard_has(self):
        for count in [0, -1, 41, BIG] + OTHER_KINDS:
            self.assert_error(InvalidYard("walls", None), yard_of, Bar(1, 1, 1), count=count)
        for low, high in (
            (1, 0), (MOST + 1, MOST + 2), (-MOST - 1, 0), (0, MOST + 1), (None, 0), (0, None), (True, 3),
            ("0", 1), ((0,), 1), ([0], 1),
        ):
            self.assert_error(
                InvalidYard("walls", 0), yard_of, Bar(1, 1, 1), count=2, low=low, high=high)

    def test_signature(self):
        self.assertEqual(str(inspect.signature(yard_of)), "(*links, count, low=0, high=1000)")
        with self.assertRaises(TypeError):
            yard_of(Bar(0, 1, 1))

    def test_links_can_be_used_again(self):
        given = one_of_each()[:1]
        self.assertEqual(yard_of(*given, count=2), yard_of(*given, count=2))
        self.assertEqual(given[0].coupling(), (0, 1, 2, 3))

    def test_classes_of_the_file(self):
        found = {name for name, value in vars(links).items() if inspect.isclass(value)
                 and value.__module__ == "coupledyard.links"}
        self.assertEqual(found, {"Link", "Bar", "Chain", "Buffer"})


if __name__ == "__main__":
    unittest.main()
