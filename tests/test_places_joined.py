"""Point 9: unions, cuts, differences, and sets that are shifted, mirrored or cut to their inner places."""

import itertools
import unittest

from openranges.places import Places
from tests.values import BIG, FAR

WIDTH = 6


def small_sets(base, width=WIDTH):
    """All sets of places from base on, with their places."""
    for chosen in itertools.product((False, True), repeat=width):
        inside = [base + x for x in range(width) if chosen[x]]
        yield set(inside), Places([(x, x) for x in inside])


def one_form(inside):
    """The stretches of a small set of places, place by place."""
    rows = []
    for x in sorted(inside):
        if rows and rows[-1][1] == x - 1:
            rows[-1] = (rows[-1][0], x)
        else:
            rows.append((x, x))
    return tuple(rows)


def only_places(numbers):
    return {x for x in numbers if 0 <= x <= FAR}


class TwoSets(unittest.TestCase):
    def test_all_pairs_of_small_sets_place_by_place(self):
        for base in (0, FAR - WIDTH + 1):
            every = list(small_sets(base))
            for (ones, one), (others, other) in itertools.product(every, every):
                self.assertEqual((one | other).stretches, one_form(ones | others))
                self.assertEqual((one & other).stretches, one_form(ones & others))
                self.assertEqual((one - other).stretches, one_form(ones - others))
                self.assertEqual((one ^ other).stretches, one_form(ones ^ others))
                self.assertIs(one.within(other), ones <= others)

    def test_the_example_of_the_document(self):
        some = Places([(7, 9), (0, 3), (4, 4)])
        told = [(some & Places([(3, 7)])).text(), (some ^ Places([(3, 7)])).text()]
        self.assertEqual(told, ["3-4 7", "0-2 5-6 8-9"])
        self.assertEqual([some.inner().text(), some.shifted(-2).text()], ["0-3 7-8", "0-2 5-7"])

    def test_long_stretches(self):
        whole = Places([(0, FAR)])
        ends = Places([(0, 4), (FAR - 4, FAR)])
        middle = Places([(5, FAR - 5)])
        self.assertEqual(whole - ends, middle)
        self.assertEqual(whole ^ middle, ends)
        self.assertEqual(ends | middle, whole)
        self.assertEqual((ends | middle).stretches, ((0, FAR),))
        self.assertEqual(ends & middle, Places())
        self.assertEqual(Places() - whole, Places())
        self.assertEqual(whole - Places(), whole)
        self.assertEqual([middle.within(whole), whole.within(middle), ends.within(middle)], [True, False, False])

    def test_sets_of_many_stretches(self):
        even = Places([(2 * k, 2 * k) for k in range(2000)])
        odd = Places([(2 * k + 1, 2 * k + 1) for k in range(2000)])
        self.assertEqual((even | odd).stretches, ((0, 3999),))
        self.assertEqual((even ^ odd).stretches, ((0, 3999),))
        self.assertEqual(even & odd, Places())
        self.assertEqual(Places([(0, 3999)]) - odd, even)

    def test_the_elder_sets_stay(self):
        one, other = Places([(0, 4), (7, 9)]), Places([(3, 7)])
        for made in (one | other, one & other, one - other, one ^ other, one.shifted(3), one.mirrored(8), one.inner()):
            self.assertIsInstance(made, Places)
        one.within(other)
        self.assertEqual((one.stretches, other.stretches), (((0, 4), (7, 9)), ((3, 7),)))
        self.assertEqual((one.size(), other.size()), (8, 5))

    def test_in_place_signs_make_new_sets(self):
        one = elder = Places([(0, 4)])
        one |= Places([(7, 7)])
        self.assertEqual((one.text(), elder.text()), ("0-4 7", "0-4"))

    def test_equal_calls_return_equal_results(self):
        one, same = Places([(0, 4), (5, 9)]), Places([(0, 9)])
        other = Places([(3, 12)])
        for name in ("__or__", "__and__", "__sub__", "__xor__", "within"):
            self.assertEqual(getattr(one, name)(other), getattr(same, name)(other))


class Shifted(unittest.TestCase):
    def test_small_sets_by_integers_of_either_sign(self):
        for base in (0, 3, 10 ** 15, FAR - WIDTH + 1):
            for inside, places in small_sets(base):
                for by in range(-WIDTH - 5, WIDTH + 6):
                    wanted = only_places([x + by for x in inside])
                    self.assertEqual(places.shifted(by).stretches, one_form(wanted))

    def test_over_both_ends(self):
        places = Places([(0, 4), (FAR - 2, FAR)])
        self.assertEqual(places.shifted(2).stretches, ((2, 6), (FAR, FAR)))
        self.assertEqual(places.shifted(3).stretches, ((3, 7),))
        self.assertEqual(places.shifted(-4).stretches, ((0, 0), (FAR - 6, FAR - 4)))
        self.assertEqual(places.shifted(-5).stretches, ((FAR - 7, FAR - 5),))
        self.assertEqual(Places([(0, FAR)]).shifted(FAR).stretches, ((FAR, FAR),))
        self.assertEqual(Places([(0, FAR)]).shifted(-FAR).stretches, ((0, 0),))
        for by in (FAR + 1, BIG, -FAR - 1, -BIG):
            self.assertEqual(Places([(0, FAR)]).shifted(by), Places())


class Mirrored(unittest.TestCase):
    def test_small_sets_in_last_places_below_among_and_above(self):
        for base in (0, 3):
            for inside, places in small_sets(base):
                for last in range(base + WIDTH + 4):
                    wanted = only_places([last - x for x in inside])
                    self.assertEqual(places.mirrored(last).stretches, one_form(wanted))

    def test_far_places(self):
        for inside, places in small_sets(FAR - WIDTH + 1):
            for last in (0, 5, FAR - 9, FAR - 5, FAR - 3, FAR - 1, FAR):
                wanted = only_places([last - x for x in inside])
                self.assertEqual(places.mirrored(last).stretches, one_form(wanted))

    def test_in_the_last_place_of_all(self):
        self.assertEqual(Places([(0, 4), (FAR, FAR)]).mirrored(FAR).stretches, ((0, 0), (FAR - 4, FAR)))
        self.assertEqual(Places([(0, FAR)]).mirrored(FAR).stretches, ((0, FAR),))
        self.assertEqual(Places([(0, FAR)]).mirrored(7).stretches, ((0, 7),))


class Inner(unittest.TestCase):
    def test_small_sets(self):
        for base in (0, 10 ** 15, FAR - WIDTH + 1):
            for inside, places in small_sets(base):
                wanted = {x for x in inside if x + 1 in inside}
                self.assertEqual(places.inner().stretches, one_form(wanted))

    def test_long_stretches(self):
        self.assertEqual(Places([(0, FAR)]).inner().stretches, ((0, FAR - 1),))
        self.assertEqual(Places([(0, 0), (FAR, FAR)]).inner(), Places())


if __name__ == "__main__":
    unittest.main()
