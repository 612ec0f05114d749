"""12.2, 12.3, section 2 for it, and the interface of coupledyard/texts.py."""

import unittest

from coupledyard.errors import InvalidText, InvalidYard
from coupledyard.texts import parse_yard, yard_text
from tests.helpers import (
    CHAIN, EMPTY_YARDS, FOREST, MOST, OTHER_KINDS, SMALL_YARDS, STAR, Y, YardTestCase, drawn_tree,
)

EDGES = (
    ((-MOST, MOST), (MOST, MOST), (-MOST, -MOST), (0, 0)),
    ((0, 3, -10 ** 10, 10 ** 10), (1, 2, 10 ** 10 - 1, 10 ** 10), (2, 3, -10 ** 10, 1 - 10 ** 10)),
)

# Words that are no integers.
NO_INTEGERS = [
    "+1", "01", "-01", "00", "-0", "--1", "1-", "-", "", "1.0", "1_0", "0x1", "1e3", "x", "one", "None",
    "True", "1,", "1;", "(1)", "1" * 100, "9" * 5000, "-" + "9" * 5000, "0" * 20, "~", "'1'",
]

# Lines that are no wagon, wherever they stand.
NO_WAGON_LINES = [
    "", " ", "wagon", "wagon ", "wagon 0", "wagon 0 ", "wagon 0 9 9", "wagon 0  9", " wagon 0 9",
    "wagon 0 9 ", "wagon  0 9", "Wagon 0 9", "WAGON 0 9", "wagons 0 9", "wago 0 9", "0 9", "wagon0 9",
    "wagon 9 0", "wagon 0 1000000001", "wagon -1000000001 0", "wagon -1000000001 1000000001",
    "wagon 1000000001 1000000002", "wagon,0,9", "wagon 0,9", "(0, 9)",
] + [f"wagon {word} 9" for word in NO_INTEGERS] + [f"wagon 0 {word}" for word in NO_INTEGERS]

# Lines that are no coupling behind three wagons.
NO_COUPLING_LINES = [
    "coupling", "coupling ", "coupling 0 1", "coupling 0 1 1", "coupling 0 1 1 2 3", "coupling 0 1 1 2 ",
    " coupling 0 1 1 2", "coupling  0 1 1 2", "coupling 0 1 1  2", "Coupling 0 1 1 2", "couplin 0 1 1 2",
    "coupling 0 0 1 2", "coupling 1 0 1 2", "coupling 0 3 1 2", "coupling -1 1 1 2", "coupling 0 1 2 2",
    "coupling 0 1 3 2", "coupling 0 1 -10000000001 2", "coupling 0 1 1 10000000001", "0 1 1 2",
] + [
    "coupling " + " ".join(words[:k] + [word] + words[k + 1:])
    for words in [["0", "1", "1", "2"]] for k in range(4) for word in NO_INTEGERS
]


class YardTextTest(YardTestCase):
    def test_example(self):
        self.assertEqual(
            yard_text((((0, 9), (0, 9)), ((0, 1, -1, 2),))),
            "wagon 0 9\nwagon 0 9\ncoupling 0 1 -1 2")

    def test_texts(self):
        self.assertEqual(yard_text((((0, 0),), ())), "wagon 0 0")
        self.assertEqual(yard_text((((-3, -2), (5, 7)), ())), "wagon -3 -2\nwagon 5 7")
        self.assertEqual(
            yard_text(EDGES),
            "wagon -1000000000 1000000000\nwagon 1000000000 1000000000\n"
            "wagon -1000000000 -1000000000\nwagon 0 0\n"
            "coupling 0 3 -10000000000 10000000000\ncoupling 1 2 9999999999 10000000000\n"
            "coupling 2 3 -10000000000 -9999999999")
        self.assertIs(type(yard_text(Y)), str)
        self.assertEqual(yard_text(yard=Y), yard_text(Y))

    def test_forty_wagons(self):
        lines = yard_text(CHAIN).split("\n")
        self.assertEqual(lines[:40], ["wagon 0 5000"] * 40)
        self.assertEqual(lines[40:], [f"coupling {i} {i + 1} 1 2" for i in range(39)])

    def test_errors(self):
        self.assert_yard_errors(yard_text, [])


class ParseYardTest(YardTestCase):
    def assert_wrong(self, line, *lines):
        self.assert_error(InvalidText(line), parse_yard, "\n".join(lines))

    def test_example(self):
        self.assertEqual(parse_yard(yard_text(Y)), Y)
        self.assert_error(InvalidText(2), parse_yard, "wagon 0 9\ncoupling 0 1 1 2")

    def test_each_text_parsed_back(self):
        yards = SMALL_YARDS + EMPTY_YARDS + [EDGES, FOREST, CHAIN, STAR, (((0, 0),) * 40, ())]
        yards += [drawn_tree(seed, 40, MOST // 2)[0] for seed in range(10)]
        for yard in yards:
            result = parse_yard(yard_text(yard))
            self.assertEqual(result, yard)
            self.assertEqual(
                [type(result)] + [type(part) for part in result]
                + [type(item) for part in result for item in part],
                [tuple] * (3 + len(yard[0]) + len(yard[1])))
            self.assertEqual(yard_text(result), yard_text(yard))
        self.assertEqual(parse_yard(text="wagon 0 9"), (((0, 9),), ()))

    def test_values_that_are_no_strings(self):
        for value in OTHER_KINDS + [("wagon 0 9",), ["wagon 0 9"], b"wagon 0 9", 5]:
            if not isinstance(value, str):
                with self.subTest(text=str(value)[:60]):
                    self.assert_error(InvalidText(0), parse_yard, value)

    def test_empty_text_and_first_lines(self):
        for text in ("", "\n", "\n\n", " ", "\nwagon 0 9", "x", "coupling 0 1 1 2", "coupling", "~" * 10000):
            self.assert_error(InvalidText(1), parse_yard, text)
        self.assert_wrong(1, "coupling 0 1 1 2", "wagon 0 9", "wagon 0 9")

    def test_wrong_wagons_in_every_line(self):
        good = "wagon 0 9"
        for line in NO_WAGON_LINES:
            with self.subTest(line=line[:60]):
                self.assert_wrong(1, line)
                self.assert_wrong(1, line, good, good)
                self.assert_wrong(2, good, line, good)
                self.assert_wrong(3, good, good, line)
                self.assert_wrong(4, good, good, "coupling 0 1 1 2", line)

    def test_wrong_couplings_in_every_line(self):
        good = ["wagon 0 9"] * 3
        for line in NO_COUPLING_LINES:
            with self.subTest(line=line[:60]):
                self.assert_wrong(4, *good, line)
                self.assert_wrong(4, *good, line, "coupling 1 2 1 2")
                self.assert_wrong(5, *good, "coupling 0 1 1 2", line)
                self.assert_wrong(6, *good, "coupling 0 1 1 2", "coupling 0 2 1 2", line)
                self.assert_wrong(1, line)

    def test_first_of_several_faults(self):
        self.assert_wrong(2, "wagon 0 9", "wagon 9 0", "wagon", "x")
        self.assert_wrong(3, "wagon 0 9", "wagon 0 9", "x", "coupling 1 0 1 2")
        self.assert_wrong(4, "wagon 0 9", "wagon 0 9", "coupling 0 1 1 2", "", "")

    def test_wagon_behind_a_coupling(self):
        self.assert_wrong(4, "wagon 0 9", "wagon 0 9", "coupling 0 1 1 2", "wagon 0 9")
        self.assert_wrong(
            4, "wagon 0 9", "wagon 0 9", "coupling 0 1 1 2", "wagon 0 9", "coupling 1 2 1 2")

    def test_a_coupling_is_judged_with_the_lines_before_it(self):
        # Wagon 2 comes too late.
        self.assert_wrong(3, "wagon 0 9", "wagon 0 9", "coupling 1 2 1 2", "wagon 0 9")
        three = ["wagon 0 9"] * 3
        self.assert_wrong(5, *three, "coupling 0 1 1 2", "coupling 0 1 3 4")
        self.assert_wrong(5, *three, "coupling 1 2 1 2", "coupling 0 1 1 2")
        self.assert_wrong(6, *three, "coupling 0 1 1 2", "coupling 0 2 1 2", "coupling 1 2 1 2")
        self.assert_wrong(6, *three, "coupling 0 1 1 2", "coupling 0 2 1 2", "coupling 1 2 0 4")

    def test_the_41st_wagon(self):
        self.assertEqual(parse_yard("\n".join(["wagon 0 9"] * 40)), (((0, 9),) * 40, ()))
        self.assert_wrong(41, *["wagon 0 9"] * 41)
        self.assert_wrong(41, *["wagon 0 9"] * 900)
        self.assert_wrong(41, *["wagon 0 9"] * 40, "x")

    def test_newline_at_the_end_and_empty_lines(self):
        self.assert_error(InvalidText(2), parse_yard, "wagon 0 9\n")
        self.assert_error(InvalidText(4), parse_yard, "wagon 0 9\nwagon 0 9\ncoupling 0 1 1 2\n")
        self.assert_error(InvalidText(2), parse_yard, "wagon 0 9\n\nwagon 0 9")
        self.assert_error(InvalidText(2), parse_yard, "wagon 0 9\n\n")

    def test_signs(self):
        self.assertEqual(parse_yard("wagon -9 -1"), (((-9, -1),), ()))
        self.assertEqual(parse_yard("wagon 0 0"), (((0, 0),), ()))
        self.assertEqual(parse_yard("wagon -10 10"), (((-10, 10),), ()))


if __name__ == "__main__":
    unittest.main()
