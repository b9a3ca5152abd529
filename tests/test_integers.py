"""What counts as an integer and as a place, and the decimal digits of numbers of any length (point 10)."""

import itertools
import unittest

from openranges import integers
from openranges.integers import decimal, is_integer, is_place
from openranges.lines import Line
from tests.values import BIG, FAR, any_values, no_integers

BLOCK = integers._BLOCK_DIGITS


def number_of(digits):
    """The number with these digits, put together one by one: Python reads no more than 4300 of them."""
    number = 0
    for digit in digits:
        number = 10 * number + ord(digit) - ord("0")
    return number


def near_blocks(size):
    """Digits of numbers at, just below and just above the size of one block and of several blocks."""
    told = []
    for many in (1, 2, 3, 7):
        length = many * size
        told += ["9" * (length - 1), "9" * length, "8" + "9" * length]
        told += ["1" + "0" * (length - 1), "1" + "0" * (length - 1) + "1", "1" + "0" * length]
        told += ["1" + "0" * (length - 1) + "1", "1" + "0" * length + "1", "1" + "0" * (length - 2) + "12"]
    return told


def with_zeros(size):
    """Digits of numbers with blocks inside that begin with zeros, end with them or are all zeros."""
    blocks = ["0" * size, "0" * (size - 1) + "7", "7" + "0" * (size - 1), "0" * (size // 2) + "3" * (size - size // 2)]
    return ["5" + "".join(row) for row in itertools.product(blocks, repeat=3)]


class Decimal(unittest.TestCase):
    def check(self, digits):
        number = number_of(digits)
        self.assertEqual(decimal(number), digits)
        self.assertEqual(decimal(-number), "-" + digits)
        self.assertEqual(Line(0, number).text(), digits)
        self.assertEqual(Line(-number, -number).text(), f"-{digits} x - {digits}")
        self.assertEqual(Line(number, number).text(), f"{digits} x + {digits}")

    def test_small_numbers(self):
        for number in list(range(-1100, 1101)) + [FAR, -FAR, FAR - 1, BIG, -BIG]:
            self.assertEqual(decimal(number), str(number))

    def test_the_sizes_of_blocks(self):
        # The size in use, and others, so that the test means as much with another size.
        for size in (BLOCK, 19, 60, 64, 500):
            for digits in near_blocks(size):
                self.check(digits)

    def test_blocks_with_zeros(self):
        for size in (BLOCK, 9, 60, 500):
            for digits in with_zeros(size):
                self.check(digits)

    def test_every_length_over_the_first_blocks(self):
        for length in range(1, 4 * BLOCK + 3):
            self.check("9" * length)
            self.check("2" + "0" * (length - 1))

    def test_more_digits_than_python_writes_at_once(self):
        for length in (4299, 4300, 4301, 6400, 9000):
            for digits in ("9" * length, "1" + "0" * (length - 1), "1" + "0" * (length - 2) + "4", "12345" * length):
                self.check(digits[:length])


class Kinds(unittest.TestCase):
    def test_integers(self):
        for number in (0, 1, -1, FAR, -FAR, BIG, -BIG):
            self.assertIs(is_integer(number), True)
        for value in no_integers():
            self.assertIs(is_integer(value), False)

    def test_places(self):
        for place in (0, 1, 7, FAR - 1, FAR):
            self.assertIs(is_place(place), True)
        for value in [value for value in any_values() if value not in (0, 1, 7, FAR) or isinstance(value, bool)]:
            self.assertIs(is_place(value), False)


if __name__ == "__main__":
    unittest.main()
