"""Point 10: lines, their arithmetic and texts, and where one is above another."""

import itertools
import unittest

from openranges.lines import Line, first_above
from tests.values import BIG, FAR, any_values

NUMBERS = (0, 1, -1, 2, -3, 7, 10 ** 30, -10 ** 30 - 1, 10 ** 45 + 3, BIG, -BIG)
LINES = [Line(slope, height) for slope, height in itertools.product(NUMBERS, NUMBERS)]
SOME = LINES[::4]


def parts(line):
    return (line.slope, line.height)


class Arithmetic(unittest.TestCase):
    def test_the_example_of_the_document(self):
        told = [Line(2, 3)(10), Line(2, 3) - 3 * Line(1, 0) == Line(-1, 3)]
        told += [Line(2, 3).moved(4).text(), Line(2, 3).mirrored(10).text()]
        self.assertEqual(told, [23, True, "2 x - 5", "-2 x + 23"])

    def test_attributes_and_values(self):
        for slope, height in itertools.product(NUMBERS, NUMBERS):
            line = Line(slope, height)
            self.assertEqual(parts(line), (slope, height))
            for x in NUMBERS:
                self.assertEqual(line(x), slope * x + height)

    def test_sums_and_differences_of_lines(self):
        for one, other in itertools.product(SOME, SOME):
            self.assertEqual(parts(one + other), (one.slope + other.slope, one.height + other.height))
            self.assertEqual(parts(one - other), (one.slope - other.slope, one.height - other.height))

    def test_sums_and_differences_with_an_integer_on_either_side(self):
        for line, number in itertools.product(LINES, NUMBERS):
            self.assertEqual(parts(line + number), (line.slope, line.height + number))
            self.assertEqual(parts(number + line), (line.slope, line.height + number))
            self.assertEqual(parts(line - number), (line.slope, line.height - number))
            self.assertEqual(parts(number - line), (-line.slope, number - line.height))
            self.assertTrue(line + number == line + Line(0, number))
            self.assertTrue(number - line == Line(0, number) - line)

    def test_negation_and_products(self):
        for line in LINES:
            self.assertEqual(parts(-line), (-line.slope, -line.height))
            for number in NUMBERS:
                self.assertEqual(parts(line * number), (line.slope * number, line.height * number))
                self.assertEqual(parts(number * line), (line.slope * number, line.height * number))

    def test_results_are_lines_and_the_elder_lines_stay(self):
        one, other = Line(2, 3), Line(-5, 7)
        made = [one + other, one - other, one + 1, 1 + one, one - 1, 1 - one, -one, one * 3, 3 * one]
        for line in made + [one.moved(4), one.mirrored(9)]:
            self.assertIs(type(line), Line)
        one += 4
        self.assertEqual((parts(one), parts(other)), ((2, 7), (-5, 7)))

    def test_equality(self):
        for one, other in itertools.product(LINES, SOME):
            same = one.slope == other.slope and one.height == other.height
            self.assertIs(one == other, same)
            self.assertIs(one != other, not same)
        self.assertTrue(Line(2, 3) == Line(2, 3))
        self.assertFalse(Line(2, 3) == Line(3, 2))
        self.assertFalse(Line(2, 3) == Line(2, 4))
        self.assertFalse(Line(2, 3) == Line(1, 3))

    def test_lines_are_not_equal_to_any_value_of_another_class(self):
        for value in any_values() + [(2, 3), [2, 3]]:
            if not isinstance(value, Line):
                for line in (Line(0, 0), Line(0, 7), Line(2, 3)):
                    self.assertIs(line == value, False)
                    self.assertIs(value == line, False)
                    self.assertIs(line != value, True)

    def test_what_is_no_line_and_no_integer_is_not_taken(self):
        for value in (None, "3", [1], (1, 2), True):
            for action in (lambda: Line(1, 2) + value, lambda: value + Line(1, 2), lambda: Line(1, 2) - value,
                           lambda: value - Line(1, 2), lambda: Line(1, 2) * value, lambda: value * Line(1, 2)):
                self.assertRaises(TypeError, action)
        self.assertRaises(TypeError, lambda: Line(1, 2) * Line(1, 2))

    def test_the_listed_methods_are_defined_in_the_class(self):
        listed = ("moved", "mirrored", "text", "__call__", "__eq__", "__add__", "__radd__", "__sub__", "__rsub__",
                  "__neg__", "__mul__", "__rmul__")
        self.assertEqual([name for name in listed if name not in vars(Line)], [])


class MovedAndMirrored(unittest.TestCase):
    def test_moved(self):
        for line in SOME:
            for by, x in itertools.product(NUMBERS, NUMBERS):
                self.assertEqual(line.moved(by)(x), line(x - by))
            self.assertTrue(line.moved(0) == line)

    def test_mirrored(self):
        for line in SOME:
            for last, x in itertools.product(NUMBERS, NUMBERS):
                self.assertEqual(line.mirrored(last)(x), line(last - x))


class Texts(unittest.TestCase):
    def test_every_form(self):
        wanted = {
            (0, 0): "0", (0, 1): "1", (0, -1): "-1", (0, 7): "7", (0, -7): "-7",
            (1, 0): "x", (1, 1): "x + 1", (1, -1): "x - 1", (1, 7): "x + 7", (1, -2): "x - 2",
            (-1, 0): "-x", (-1, 1): "-x + 1", (-1, -1): "-x - 1", (-1, 10): "-x + 10", (-1, -2): "-x - 2",
            (2, 0): "2 x", (2, 1): "2 x + 1", (2, -1): "2 x - 1", (2, 3): "2 x + 3", (10, -5): "10 x - 5",
            (-2, 0): "-2 x", (-2, 1): "-2 x + 1", (-2, -1): "-2 x - 1", (-2, 23): "-2 x + 23", (-11, -5): "-11 x - 5",
            (10 ** 40, -10 ** 31): "1" + 40 * "0" + " x - 1" + 31 * "0",
            (1 - 10 ** 30, 10 ** 30): "-" + 30 * "9" + " x + 1" + 30 * "0",
        }
        for (slope, height), text in wanted.items():
            self.assertEqual(Line(slope, height).text(), text)

    def test_numbers_longer_than_python_writes_at_once(self):
        line = Line(-1, 7)
        for _ in range(80):
            line = line * BIG
        ones, long = 10 ** 6400 // 9, 10 ** 6400
        self.assertEqual(Line(ones, -long).text(), 6400 * "1" + " x - 1" + 6400 * "0")
        self.assertEqual(Line(0, -ones).text(), "-" + 6400 * "1")
        self.assertEqual(Line(0, long + 5).text(), "1" + 6399 * "0" + "5")
        self.assertTrue(line.text().startswith("-99999"))
        self.assertEqual([Line(0, 10 ** k).text() for k in (499, 500, 1000)], ["1" + k * "0" for k in (499, 500, 1000)])


class FirstAbove(unittest.TestCase):
    def test_the_example_of_the_document(self):
        told = [first_above(Line(3, 0), Line(1, 7), 0), first_above(Line(-1, 4), Line(0, 0), 10)]
        self.assertEqual(told, [4, None])

    def test_small_lines_integer_by_integer(self):
        small = [Line(slope, height) for slope, height in itertools.product(range(-3, 4), range(-4, 5))]
        for one, other in itertools.product(small, small[::3]):
            for start in range(-12, 13, 3):
                above = [x for x in range(start, start + 40) if one(x) > other(x)]
                self.assertEqual(first_above(one, other, start), above[0] if above else None)

    def test_equal_and_parallel_lines(self):
        for start in (-FAR, -1, 0, 5, FAR):
            for slope in (0, 4, -4, FAR):
                self.assertIsNone(first_above(Line(slope, 3), Line(slope, 3), start))
                self.assertIsNone(first_above(Line(slope, 3), Line(slope, 4), start))
                self.assertEqual(first_above(Line(slope, 4), Line(slope, 3), start), start)

    def test_lines_that_cross_at_just_before_and_just_behind_an_integer(self):
        for at in (0, 5, -5, FAR, -FAR):
            for steep in (2, 3, 10 ** 31):
                for shift, first in ((0, at + 1), (1, at), (-1, at + 1)):
                    rising = Line(steep, -steep * at + shift)
                    for start in (first - 3, first - 1, first):
                        self.assertEqual(first_above(rising, Line(0, 0), start), first)
                    self.assertEqual(first_above(rising, Line(0, 0), first + 8), first + 8)
                    self.assertEqual(first_above(rising, Line(0, 0), -BIG), first)

    def test_a_falling_line_is_above_at_the_start_or_never(self):
        for at in (0, 5, -5, FAR, -FAR):
            falling = Line(-2, 2 * at)
            self.assertEqual(first_above(falling, Line(0, 0), at - 1), at - 1)
            self.assertEqual(first_above(falling, Line(0, 0), -BIG), -BIG)
            self.assertIsNone(first_above(falling, Line(0, 0), at))
            self.assertIsNone(first_above(falling, Line(0, 0), at + 1))

    def test_it_is_above_there_and_not_before(self):
        for one, other in itertools.product(SOME, SOME):
            for start in (-BIG, -7, 0, FAR):
                x = first_above(one, other, start)
                if x is None:
                    self.assertLessEqual(one(start), other(start))
                    self.assertLessEqual(one.slope, other.slope)
                else:
                    self.assertGreater(one(x), other(x))
                    self.assertGreaterEqual(x, start)
                    self.assertTrue(x == start or one(x - 1) <= other(x - 1) and one(start) <= other(start))


if __name__ == "__main__":
    unittest.main()
