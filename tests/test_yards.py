"""Section 3, section 2 for it, and the interface of coupledyard/yards.py."""

import copy
import itertools
import unittest

from coupledyard import yards
from coupledyard.errors import InvalidWagon, InvalidYard, NotConnected
from coupledyard.yards import (
    are_connected, groups, is_yard, make_yard, path, span, validate_yard,
)
from tests.helpers import BIG, FOREST, OTHER_KINDS, Y, YardTestCase, all_arrangements

TWO_WALLS = ((0, 9), (0, 9))
CHAIN_OF_40 = tuple((i, i + 1, 1, 2) for i in range(39))


class ValidateYardTest(YardTestCase):
    def assert_yard(self, value):
        self.assertIsNone(validate_yard(value))
        self.assertIs(is_yard(value), True)

    def assert_no_yard(self, value, part, index):
        self.assert_error(InvalidYard(part, index), validate_yard, value)
        self.assertIs(is_yard(value), False)

    def test_constants(self):
        self.assertEqual(yards.MOST_WAGONS, 40)
        self.assertEqual(yards.MOST_PLACE, 1000000000)
        self.assertEqual(yards.MOST_DIFFERENCE, 10000000000)

    def test_yards(self):
        for value in (Y, FOREST, (((0, 0),), ()), (TWO_WALLS, ()), (TWO_WALLS, ((0, 1, -3, -2),))):
            self.assert_yard(value)

    def test_example(self):
        self.assert_no_yard((((0, 9), (0, 9)), ((0, 1, 2, 2),)), "couplings", 0)

    def test_form(self):
        for value in OTHER_KINDS + [0, (), (TWO_WALLS,), (TWO_WALLS, (), ()), [TWO_WALLS, ()], BIG]:
            with self.subTest(value=value):
                self.assert_no_yard(value, "form", None)

    def test_walls_of_other_kinds(self):
        for value in OTHER_KINDS + [0, (), list(TWO_WALLS), dict(TWO_WALLS), BIG]:
            if isinstance(value, tuple) and value:
                continue
            with self.subTest(value=value):
                self.assert_no_yard((value, ()), "walls", None)
                self.assert_no_yard((value, None), "walls", None)

    def test_number_of_wagons(self):
        self.assert_no_yard(((), ()), "walls", None)
        self.assert_yard((((0, 9),), ()))
        self.assert_yard((((0, 9),) * 40, ()))
        self.assert_yard((((0, 9),) * 40, CHAIN_OF_40))
        self.assert_no_yard((((0, 9),) * 41, ()), "walls", None)
        self.assert_no_yard(((None,) * 41, ()), "walls", None)
        self.assert_no_yard((((0, 9),) * 400000, ()), "walls", None)

    def test_items_of_the_walls_of_other_kinds(self):
        for item in OTHER_KINDS + [0, (), (0,), (0, 9, 9), [0, 9]]:
            with self.subTest(item=item):
                self.assert_no_yard(((item,), ()), "walls", 0)
                self.assert_no_yard((((0, 9), item, (0, 9)), ()), "walls", 1)

    def test_places_of_the_walls_of_other_kinds(self):
        for place in OTHER_KINDS + [BIG, -BIG, (0,)]:
            with self.subTest(place=place):
                self.assert_no_yard((((place, 9),), ()), "walls", 0)
                self.assert_no_yard((((0, 9), (0, place)), ()), "walls", 1)

    def test_places_of_the_walls(self):
        most = 10 ** 9
        self.assert_yard((((-most, most),), ()))
        self.assert_yard((((-most, -most), (most, most)), ()))
        self.assert_no_yard((((-most - 1, 0),), ()), "walls", 0)
        self.assert_no_yard((((0, most + 1),), ()), "walls", 0)
        self.assert_no_yard((((0, 0), (-most - 1, -most - 1)), ()), "walls", 1)
        self.assert_no_yard((((0, 0), (most + 1, most + 1)), ()), "walls", 1)

    def test_low_and_high(self):
        self.assert_yard((((4, 4),), ()))
        self.assert_no_yard((((5, 4),), ()), "walls", 0)
        self.assert_no_yard((((0, 9), (0, -1), (5, 4)), ()), "walls", 1)

    def test_smallest_index_of_the_walls(self):
        self.assert_no_yard((((0, 9), None, None), ()), "walls", 1)
        self.assert_no_yard((((0, 9), (True, 9), (9, 0)), ()), "walls", 1)
        self.assert_no_yard((((0, 9),) * 39 + ((0, True),), ()), "walls", 39)

    def test_walls_come_before_couplings(self):
        for couplings in (None, [], ((0, 1, 2, 2),), "ab"):
            self.assert_no_yard((((0, 9), (9, 0)), couplings), "walls", 1)

    def test_couplings_of_other_kinds(self):
        for value in OTHER_KINDS + [0, [(0, 1, 1, 2)], {(0, 1, 1, 2): 1}]:
            if isinstance(value, tuple):
                continue
            with self.subTest(value=value):
                self.assert_no_yard((TWO_WALLS, value), "couplings", None)

    def test_items_of_the_couplings_of_other_kinds(self):
        short = [0, (), (0,), (0, 1), (0, 1, 1), (0, 1, 1, 2, 3), [0, 1, 1, 2]]
        for item in OTHER_KINDS + short:
            with self.subTest(item=item):
                self.assert_no_yard((Y[0], (item,)), "couplings", 0)
                self.assert_no_yard((Y[0], ((0, 1, 1, 2), item)), "couplings", 1)

    def test_parts_of_a_coupling_of_other_kinds(self):
        for at in range(4):
            for item in OTHER_KINDS + [BIG, -BIG, (1,)]:
                with self.subTest(at=at, item=item):
                    coupling = [0, 1, -1, 2]
                    coupling[at] = item
                    self.assert_no_yard((TWO_WALLS, (tuple(coupling),)), "couplings", 0)

    def test_wagons_of_a_coupling(self):
        self.assert_yard((Y[0], ((0, 2, 1, 2),)))
        for i, j in ((0, 3), (-1, 2), (3, 4), (1, 1), (2, 1), (-2, -1)):
            with self.subTest(i=i, j=j):
                self.assert_no_yard((Y[0], ((i, j, 1, 2),)), "couplings", 0)

    def test_bounds_of_a_coupling(self):
        most = 10 ** 10
        for least, greatest in ((-most, most), (most - 1, most), (-most, 1 - most), (0, 1), (-1, 0)):
            with self.subTest(least=least, greatest=greatest):
                self.assert_yard((TWO_WALLS, ((0, 1, least, greatest),)))
        for least, greatest in (
            (-most - 1, 0), (0, most + 1), (-most - 1, -most), (most, most + 1),
            (0, 0), (1, 0), (most, most), (-most, -most),
        ):
            with self.subTest(least=least, greatest=greatest):
                self.assert_no_yard((TWO_WALLS, ((0, 1, least, greatest),)), "couplings", 0)

    def test_order_of_couplings(self):
        four = ((0, 9),) * 4
        self.assert_yard((four, ((0, 3, 1, 2), (1, 2, 1, 2), (1, 3, 1, 2))))
        self.assert_no_yard((four, ((0, 3, 1, 2), (0, 2, 1, 2))), "couplings", 1)
        self.assert_no_yard((four, ((0, 1, 1, 2), (2, 3, 1, 2), (1, 2, 1, 2))), "couplings", 2)
        self.assert_no_yard((four, ((1, 2, 1, 2), (0, 3, 1, 2))), "couplings", 1)

    def test_repeated_couplings(self):
        for least, greatest in ((1, 2), (2, 3), (0, 3)):
            repeated = ((0, 1, 1, 2), (0, 1, least, greatest))
            self.assert_no_yard((TWO_WALLS, repeated), "couplings", 1)
        self.assert_no_yard((TWO_WALLS, ((0, 1, 1, 2),) * 400000), "couplings", 1)

    def test_rings(self):
        five = ((0, 9),) * 5
        triangle = ((0, 1, 1, 2), (0, 2, 1, 2), (1, 2, 1, 2))
        self.assert_no_yard((five, triangle), "couplings", 2)
        self.assert_yard((five, triangle[:2]))
        square = ((0, 1, 0, 9), (1, 2, 0, 9), (2, 3, 0, 9))
        self.assert_yard((five, square))
        self.assert_no_yard((five, ((0, 1, 0, 9), (0, 3, 0, 9), (1, 2, 0, 9), (2, 3, 0, 9))), "couplings", 3)
        two_trees = ((0, 4, 0, 9), (1, 2, 0, 9), (2, 3, 0, 9), (3, 4, 0, 9))
        self.assert_yard((five, two_trees))

    def test_smallest_index_of_the_couplings(self):
        five = ((0, 9),) * 5
        ring = ((0, 1, 1, 2), (0, 2, 1, 2), (1, 2, 1, 2), (1, 1, 1, 2), None)
        self.assert_no_yard((five, ring), "couplings", 2)
        self.assert_no_yard((five, ring[:2] + ring[3:]), "couplings", 2)
        self.assert_no_yard((five, (None,) + ring), "couplings", 0)

    def test_rings_of_all_couplings_of_four_wagons(self):
        pairs = list(itertools.combinations(range(4), 2))
        for size in range(len(pairs) + 1):
            for chosen in itertools.combinations(pairs, size):
                couplings = tuple((i, j, -1, 1) for i, j in chosen)
                first = first_ring(4, chosen)
                with self.subTest(chosen=chosen):
                    if first is None:
                        self.assert_yard((((0, 9),) * 4, couplings))
                    else:
                        self.assert_no_yard((((0, 9),) * 4, couplings), "couplings", first)


def connected_pairs(count, pairs):
    """All pairs of connected wagons, by repeated addition of what follows."""
    found = {(i, i) for i in range(count)} | set(pairs) | {(j, i) for i, j in pairs}
    while True:
        more = {(a, d) for a, b in found for c, d in found if b == c} - found
        if not more:
            return found
        found |= more


def first_ring(count, pairs):
    for index, pair in enumerate(pairs):
        if pair in connected_pairs(count, pairs[:index]):
            return index
    return None


class MakeYardTest(YardTestCase):
    def test_example(self):
        self.assertEqual(make_yard(3, (1, 2, 1, 2), (0, 1, 1, 2), high=9), Y)

    def test_defaults(self):
        self.assertEqual(make_yard(1), (((0, 1000),), ()))
        self.assertEqual(make_yard(2, low=-5), (((-5, 1000), (-5, 1000)), ()))
        self.assertEqual(make_yard(2, high=0), (((0, 0), (0, 0)), ()))

    def test_kinds_of_values(self):
        made = make_yard(3, (1, 2, 1, 2), (0, 1, 1, 2), high=9)
        self.assertIs(type(made), tuple)
        for part in made:
            self.assertIs(type(part), tuple)
            for item in part:
                self.assertIs(type(item), tuple)

    def test_edges(self):
        most = 10 ** 9
        made = make_yard(40, *reversed(CHAIN_OF_40), low=-most, high=most)
        self.assertEqual(made, (((-most, most),) * 40, CHAIN_OF_40))
        self.assertIsNone(validate_yard(made))
        self.assertEqual(make_yard(1, low=7, high=7), (((7, 7),), ()))

    def test_count_by_name(self):
        self.assertEqual(make_yard(count=2, low=1, high=2), (((1, 2), (1, 2)), ()))

    def test_low_and_high_are_keyword_only(self):
        self.assert_error(InvalidYard("couplings", 0), make_yard, 2, 0, 9)

    def test_couplings_are_sorted_as_tuples(self):
        couplings = ((0, 10, 1, 2), (0, 2, 5, 9), (3, 10, -1, 0), (2, 9, -10, 4))
        made = make_yard(11, *reversed(couplings))
        self.assertEqual(made[1], tuple(sorted(couplings)))

    def test_index_among_the_sorted_couplings(self):
        right = [(1, 2, 1, 2), (0, 1, 1, 2)]
        self.assert_error(InvalidYard("couplings", 2), make_yard, 4, (2, 3, 2, 2), *right)
        self.assert_error(InvalidYard("couplings", 0), make_yard, 4, *right, (0, 1, 0, 0))
        self.assert_error(InvalidYard("couplings", 1), make_yard, 4, *right, (0, 1, 1, 1 + 2))
        self.assert_error(InvalidYard("couplings", 2), make_yard, 4, (1, 2, 1, 2), (0, 2, 1, 2), (0, 1, 1, 2))
        self.assert_error(InvalidYard("couplings", 0), make_yard, 4, *right, (-1, 0, 1, 2))
        self.assert_error(InvalidYard("couplings", 2), make_yard, 3, *right, (2, 3, 1, 2))
        self.assert_error(InvalidYard("couplings", 0), make_yard, 1, (0, 1, 1, 2))

    def test_couplings_of_other_kinds(self):
        for value in OTHER_KINDS + [0, (), (0, 1, 1), [0, 1, 1, 2], (0, 1, 1, 2, 3)]:
            with self.subTest(value=value):
                self.assert_error(InvalidYard("couplings", 0), make_yard, 3, value)
                self.assert_error(InvalidYard("couplings", 0), make_yard, 3, value, value)

    def test_couplings_that_python_can_still_sort(self):
        right = (0, 1, 1, 2)
        for wrong in ((1, None, 1, 2), (1, True, 1, 2), (1,), (1, "2", 1, 2), (0, 1, 2), (0, 2, 1, [2])):
            with self.subTest(wrong=wrong):
                self.assertEqual(sorted((wrong, right)), [right, wrong])
                self.assert_error(InvalidYard("couplings", 1), make_yard, 3, wrong, right)
                self.assert_error(InvalidYard("couplings", 1), make_yard, 3, right, wrong)

    def test_couplings_that_python_cannot_sort(self):
        for wrong in (None, "ab", [0, 1, 1, 2], ("0", 1, 1, 2), {}):
            with self.subTest(wrong=wrong):
                with self.assertRaises(InvalidYard) as caught:
                    make_yard(3, (0, 1, 1, 2), wrong, (1, 2, 1, 2))
                self.assertEqual(caught.exception.part, "couplings")

    def test_only_the_couplings_are_judged(self):
        self.assertEqual(make_yard(41, (0, 40, 1, 2)), (((0, 1000),) * 41, ((0, 40, 1, 2),)))
        self.assertEqual(make_yard(1, high=10 ** 9 + 1), (((0, 10 ** 9 + 1),), ()))


class ConnectionTest(YardTestCase):
    functions = (are_connected, path, span)

    def test_examples(self):
        self.assertEqual((path(Y, 2, 0), span(Y, 0, 2), span(Y, 2, 1)), ((2, 1, 0), (2, 4), (-2, -1)))

    def test_connected(self):
        together = connected_pairs(6, [(0, 2), (1, 3), (2, 4)])
        for wagon, other in itertools.product(range(6), repeat=2):
            with self.subTest(wagon=wagon, other=other):
                self.assertIs(are_connected(FOREST, wagon, other), (wagon, other) in together)

    def test_with_itself(self):
        for yard in (FOREST, (((3, 3),), ())):
            for wagon in range(len(yard[0])):
                self.assertIs(are_connected(yard, wagon, wagon), True)
                self.assertEqual(path(yard, wagon, wagon), (wagon,))
                self.assertEqual(span(yard, wagon, wagon), (0, 0))

    def test_along_one_coupling(self):
        self.assertEqual(path(FOREST, 1, 3), (1, 3))
        self.assertEqual(span(FOREST, 1, 3), (-7, 5))
        self.assertEqual(span(FOREST, 3, 1), (-5, 7))
        self.assertEqual(span(FOREST, 2, 0), (-3, -1))

    def test_along_several_couplings(self):
        self.assertEqual(path(FOREST, 0, 4), (0, 2, 4))
        self.assertEqual(path(FOREST, 4, 0), (4, 2, 0))
        self.assertEqual(span(FOREST, 0, 4), (-1, 13))
        self.assertEqual(span(FOREST, 4, 0), (-13, 1))

    def test_couplings_in_both_directions_on_a_path(self):
        yard = (((0, 99),) * 5, ((0, 3, 1, 2), (1, 3, 10, 20), (1, 4, 100, 200), (2, 4, -9, 7)))
        self.assertEqual(path(yard, 0, 2), (0, 3, 1, 4, 2))
        self.assertEqual(span(yard, 0, 2), (1 - 20 + 100 - 7, 2 - 10 + 200 + 9))
        self.assertEqual(span(yard, 2, 0), (-201, -74))

    def test_longest_path(self):
        yard = make_yard(40, *((i, i + 1, -10 ** 10, 10 ** 10) for i in range(39)))
        self.assertEqual(path(yard, 39, 0), tuple(range(39, -1, -1)))
        self.assertEqual(span(yard, 0, 39), (-39 * 10 ** 10, 39 * 10 ** 10))

    def test_paths_lead_along_couplings_without_returning(self):
        for yard in (Y, FOREST):
            pairs = [coupling[:2] for coupling in yard[1]]
            for wagon, other in connected_pairs(len(yard[0]), pairs):
                way = path(yard, wagon, other)
                self.assertEqual((way[0], way[-1]), (wagon, other))
                self.assertEqual(len(set(way)), len(way))
                for u, v in zip(way, way[1:]):
                    self.assertIn((min(u, v), max(u, v)), pairs)

    def test_differences_are_exactly_those_within_the_span(self):
        yard = (((0, 12),) * 3, ((0, 2, -3, -1), (1, 2, 0, 2)))
        found = all_arrangements(yard)
        for u, v in itertools.product(range(3), repeat=2):
            differences = {places[v] - places[u] for places in found}
            self.assertEqual((min(differences), max(differences)), span(yard, u, v))

    def test_not_connected(self):
        for wagon, other in ((0, 1), (1, 0), (5, 0), (3, 5), (4, 3)):
            for function in (path, span):
                self.assert_error(NotConnected((wagon, other)), function, FOREST, wagon, other)
            self.assertIs(are_connected(FOREST, wagon, other), False)

    def test_wagons_of_other_kinds(self):
        for function in self.functions:
            for value in OTHER_KINDS + [-1, 3, BIG, -BIG, (0,), "0"]:
                with self.subTest(function=function.__name__, value=value):
                    self.assert_error(InvalidWagon(value), function, Y, value, 0)
                    self.assert_error(InvalidWagon(value), function, Y, 0, value)

    def test_the_field_holds_the_very_value(self):
        value = [1]
        for arguments in ((value, 0), (0, value)):
            with self.assertRaises(InvalidWagon) as caught:
                path(Y, *arguments)
            self.assertIs(caught.exception.wagon, value)

    def test_order_of_the_errors(self):
        for function in self.functions:
            self.assert_error(InvalidYard("form", None), function, None, None, "x")
            self.assert_error(InvalidYard("couplings", 1), function, (Y[0], (Y[1][0],) * 2), None, 0)
            self.assert_error(InvalidWagon(None), function, Y, None, "x")
            self.assert_error(InvalidWagon("x"), function, Y, 0, "x")
            self.assert_error(InvalidWagon(6), function, FOREST, 6, -1)

    def test_parameters_by_name(self):
        self.assertIs(are_connected(other=1, wagon=0, yard=Y), True)
        self.assertEqual(path(other=1, wagon=0, yard=Y), (0, 1))
        self.assertEqual(span(other=1, wagon=0, yard=Y), (1, 2))


class GroupsTest(YardTestCase):
    def test_groups(self):
        self.assertEqual(groups(Y), ((0, 1, 2),))
        self.assertEqual(groups(FOREST), ((0, 2, 4), (1, 3), (5,)))
        self.assertEqual(groups(yard=(((0, 9),), ())), ((0,),))
        self.assertEqual(groups((((0, 9),) * 40, ())), tuple((i,) for i in range(40)))
        self.assertEqual(groups((((0, 9),) * 40, CHAIN_OF_40)), (tuple(range(40)),))

    def test_a_star_and_late_joins(self):
        yard = make_yard(6, (0, 5, 1, 2), (2, 5, 1, 2), (4, 5, 1, 2), (1, 3, 1, 2))
        self.assertEqual(groups(yard), ((0, 2, 4, 5), (1, 3)))

    def test_errors(self):
        for value in OTHER_KINDS:
            self.assert_error(InvalidYard("form", None), groups, value)
        self.assert_error(InvalidYard("walls", 0), groups, (((1, 0),), ()))


class ArgumentsTest(YardTestCase):
    def test_arguments_are_not_modified(self):
        for value in ([[(0, 9)], []], ([[0, 9]], []), (((0, 9),), [[0, 1, 1, 2]]), {"a": [1]}):
            before = copy.deepcopy(value)
            self.assertIs(is_yard(value), False)
            with self.assertRaises(InvalidYard):
                groups(value)
            self.assertEqual(value, before)

    def test_equal_calls_have_equal_results(self):
        for _ in range(2):
            self.assertEqual(groups(FOREST), ((0, 2, 4), (1, 3), (5,)))
            self.assertEqual(span(FOREST, 4, 0), (-13, 1))
            self.assert_error(InvalidYard("form", None), groups, None)

    def test_validate_and_is_yard_by_name(self):
        self.assertIsNone(validate_yard(yard=Y))
        self.assertIs(is_yard(value=Y), True)


if __name__ == "__main__":
    unittest.main()
