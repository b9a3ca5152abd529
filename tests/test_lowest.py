"""Point 10: the least and the greatest of several lines."""

import itertools
import unittest

from openranges.lines import Line, highest, lowest
from tests.values import BIG, FAR


def told(pieces):
    return [(first, last, line.slope, line.height) for first, last, line in pieces]


def plain_pieces(lines, first, last, sign):
    """The pieces by the words of the document, integer by integer (sign 1: lowest, -1: highest)."""
    pieces = []
    holder = None
    for x in range(first, last + 1):
        if holder is None or any(sign * line(x) < sign * holder(x) for line in lines):
            holder = min(lines, key=lambda line: (sign * line(x), sign * line.slope))
            pieces.append((x, x, holder))
        else:
            pieces[-1] = (pieces[-1][0], x, holder)
    return pieces


class Lowest(unittest.TestCase):
    def check(self, lines, first, last):
        low, high = lowest(lines, first, last), highest(lines, first, last)
        self.assertEqual(told(low), told(plain_pieces(lines, first, last, 1)))
        self.assertEqual(told(high), told(plain_pieces(lines, first, last, -1)))

    def test_the_example_of_the_document(self):
        pieces = lowest([Line(1, 0), Line(0, 4), Line(-1, 10)], 0, 9)
        texts = [(first, last, line.text()) for first, last, line in pieces]
        self.assertEqual(texts, [(0, 4, "x"), (5, 6, "4"), (7, 9, "-x + 10")])

    def test_one_line(self):
        for line in (Line(0, 0), Line(3, -7), Line(-3, 7), Line(BIG, -BIG)):
            for first, last in ((0, 0), (0, 9), (-5, 5), (FAR, FAR), (-FAR, FAR)):
                self.assertEqual(told(lowest([line], first, last)), [(first, last, line.slope, line.height)])
                self.assertEqual(told(highest([line], first, last)), [(first, last, line.slope, line.height)])

    def test_all_pairs_and_triples_of_small_lines(self):
        small = [Line(slope, height) for slope, height in itertools.product(range(-2, 3), range(-2, 3))]
        for one, other in itertools.product(small, small):
            for first, last in ((-6, 6), (0, 3), (0, 0), (-1, -1)):
                self.check([one, other], first, last)
        for lines in itertools.product(small[::2], repeat=3):
            self.check(lines, -5, 5)
            self.check(lines, 0, 2)

    def test_more_lines_that_cross_between_integers(self):
        steep = [Line(slope, height) for slope, height in ((5, 3), (3, 4), (2, 2), (-1, 9), (-4, 13), (0, 7), (-4, 12))]
        for count in (4, 5):
            for lines in itertools.permutations(steep, count):
                self.check(lines, -4, 8)

    def test_parallel_and_equal_lines(self):
        for slope in (0, 2, -2):
            lines = [Line(slope, 3), Line(slope, -1), Line(slope, 5), Line(slope, -1), Line(slope, 5)]
            self.assertEqual(told(lowest(lines, -4, 4)), [(-4, 4, slope, -1)])
            self.assertEqual(told(highest(lines, -4, 4)), [(-4, 4, slope, 5)])
        self.assertEqual(told(lowest([Line(1, 0)] * 4, 0, 9)), [(0, 9, 1, 0)])

    def test_many_lines_through_one_point(self):
        for at in (-3, 0, 4):
            lines = [Line(slope, -slope * at) for slope in range(-3, 4)]
            for first in range(at - 3, at + 4):
                for last in range(first, at + 4):
                    self.check(lines, first, last)
        fan = [Line(slope, 0) for slope in range(-3, 4)]
        self.assertEqual(told(lowest(fan, -2, 2)), [(-2, 0, 3, 0), (1, 2, -3, 0)])
        self.assertEqual(told(lowest(fan, 0, 2)), [(0, 2, -3, 0)])
        self.assertEqual(told(highest(fan, 0, 2)), [(0, 2, 3, 0)])

    def test_a_tie_alone_does_not_begin_a_piece(self):
        self.assertEqual(told(lowest([Line(1, 0), Line(0, 4)], 0, 4)), [(0, 4, 1, 0)])
        self.assertEqual(told(lowest([Line(1, 0), Line(0, 4)], 0, 5)), [(0, 4, 1, 0), (5, 5, 0, 4)])
        self.assertEqual(told(lowest([Line(1, 0), Line(0, 4)], 4, 5)), [(4, 5, 0, 4)])

    def test_a_piece_that_begins_at_a_tie_has_the_least_slope(self):
        lines = [Line(3, 0), Line(0, 4), Line(-1, 6)]
        self.assertEqual(told(lowest(lines, 0, 4)), [(0, 1, 3, 0), (2, 4, -1, 6)])

    def test_stretches_of_one_integer(self):
        lines = [Line(2, 3), Line(-5, 1), Line(0, 0), Line(2, -9)]
        for x in range(-6, 7):
            self.check(lines, x, x)

    def test_far_stretches_are_like_near_ones(self):
        near = [Line(3, 0), Line(1, 5), Line(0, 12), Line(-2, 30), Line(-2, 31), Line(-7, 100)]
        for base in (FAR, -FAR, BIG):
            far = [line.moved(base) for line in near]
            for make in (lowest, highest):
                wanted = [(first + base, last + base, line.slope, line.moved(base).height)
                          for first, last, line in make(near, -5, 40)]
                self.assertEqual(told(make(far, base - 5, base + 40)), wanted)

    def test_long_stretches(self):
        lines = [Line(1, 0), Line(0, 10 ** 29), Line(-1, 10 ** 30)]
        wanted = [(0, 10 ** 29, 1, 0), (10 ** 29 + 1, 9 * 10 ** 29, 0, 10 ** 29), (9 * 10 ** 29 + 1, FAR, -1, FAR)]
        self.assertEqual(told(lowest(lines, 0, FAR)), wanted)
        self.assertEqual(told(lowest(lines, -BIG, FAR)), [(-BIG, 10 ** 29, 1, 0)] + wanted[1:])

    def test_many_lines(self):
        lines = [Line(-k, k * (k - 1)) for k in range(1000)]
        pieces = lowest(lines[::-1], 0, FAR)
        for (_, last, line), (first, _, after) in zip(pieces, pieces[1:]):
            self.assertEqual(first, last + 1)
            self.assertLessEqual(line(last), after(last))
            self.assertGreater(line(first), after(first))
        self.assertEqual((pieces[0][0], pieces[-1][1]), (0, FAR))

    def test_the_order_of_the_lines_does_not_matter(self):
        lines = [Line(1, 0), Line(0, 4), Line(-1, 10), Line(1, 0), Line(0, 5)]
        for make in (lowest, highest):
            for turned in itertools.permutations(lines):
                self.assertEqual(told(make(turned, 0, 12)), told(make(lines, 0, 12)))

    def test_what_is_returned_and_what_was_passed(self):
        lines = [Line(0, 4), Line(1, 0)]
        for make in (lowest, highest):
            pieces = make(lines, 0, 9)
            self.assertIs(type(pieces), list)
            self.assertEqual({type(piece) for piece in pieces}, {tuple})
            self.assertEqual({type(piece[2]) for piece in pieces}, {Line})
            pieces.clear()
            self.assertEqual(len(make(lines, 0, 9)), 2)
            self.assertEqual(told(make(tuple(lines), 0, 9)), told(make(lines, 0, 9)))
        self.assertEqual([line.text() for line in lines], ["4", "x"])


if __name__ == "__main__":
    unittest.main()
