"""Point 9: the one form, wrong stretches, and members of sets of places."""

import itertools
import unittest

from openranges.errors import BadStretch, NoPlace
from openranges.lines import Line
from openranges.places import Places
from tests.values import BIG, FAR, any_values, no_integers

BASES = (0, 10 ** 15, FAR - 12)


def at_base(base, rows):
    return [(base + first, base + last) for first, last in rows]


class OneForm(unittest.TestCase):
    def test_the_example_of_the_document(self):
        some = Places([(7, 9), (0, 3), (4, 4)])
        told = [some.stretches, some.size(), some[5], 6 in some, some.rank(8)]
        self.assertEqual(told, [((0, 4), (7, 9)), 8, 7, False, 6])

    def test_no_places_at_all(self):
        for none in (Places(), Places([]), Places(())):
            self.assertEqual(none.stretches, ())
            self.assertIs(bool(none), False)
            self.assertEqual(none, Places())

    def test_the_same_places_told_in_many_ways(self):
        ways = [
            [(0, 4), (7, 9)],
            [(7, 9), (0, 4)],
            [(0, 0), (1, 1), (2, 2), (3, 3), (4, 4), (7, 7), (8, 8), (9, 9)],
            [(9, 9), (8, 8), (7, 7), (4, 4), (3, 3), (2, 2), (1, 1), (0, 0)],
            [(0, 3), (2, 4), (7, 8), (7, 9), (0, 4)],
            [(0, 4), (0, 4), (7, 9), (7, 9)],
            [(0, 4), (1, 2), (8, 8), (7, 9), (3, 3)],
            [(2, 4), (0, 1), (9, 9), (7, 8)],
        ]
        for base in BASES:
            for way in ways:
                rows = at_base(base, way)
                for told in (rows, tuple(rows), [list(row) for row in rows], tuple(list(row) for row in rows)):
                    places = Places(told)
                    self.assertEqual(places.stretches, tuple(at_base(base, [(0, 4), (7, 9)])))
                    self.assertIs(type(places.stretches), tuple)
                    self.assertEqual([type(row) for row in places.stretches], [tuple, tuple])
                    self.assertTrue(places == Places(rows[::-1]))
                    self.assertFalse(places != Places(rows[::-1]))
                    self.assertIs(bool(places), True)

    def test_all_small_sets_in_every_order_of_their_stretches(self):
        pairs = [(first, last) for first in range(4) for last in range(first, 4)]
        for told in itertools.product(pairs, repeat=3):
            inside = [x for x in range(4) if any(first <= x <= last for first, last in told)]
            places = Places(told)
            self.assertEqual([x for x in range(-1, 6) if x in places], inside)
            for (_, last), (first, _) in zip(places.stretches, places.stretches[1:]):
                self.assertGreaterEqual(first, last + 2)

    def test_stretches_that_nearly_touch_stay_apart(self):
        for base in BASES:
            self.assertEqual(len(Places(at_base(base, [(0, 3), (5, 6)])).stretches), 2)
            self.assertEqual(len(Places(at_base(base, [(0, 3), (4, 6)])).stretches), 1)

    def test_near_and_far_stretches(self):
        places = Places([(FAR, FAR), (0, 0), (5, FAR - 2)])
        self.assertEqual(places.stretches, ((0, 0), (5, FAR - 2), (FAR, FAR)))
        self.assertEqual(Places([(0, FAR)]).size(), FAR + 1)
        self.assertEqual(Places([(1, FAR), (0, 0)]).stretches, ((0, FAR),))

    def test_one_place_more_or_less_is_unequal(self):
        for base in BASES:
            some = Places(at_base(base, [(1, 4), (7, 9)]))
            for other in ([(0, 4), (7, 9)], [(2, 4), (7, 9)], [(1, 3), (7, 9)], [(1, 5), (7, 9)],
                          [(1, 4), (7, 8)], [(1, 4), (7, 10)], [(1, 4), (8, 9)], [(1, 4)], [(7, 9)], [(1, 9)],
                          [(1, 2), (4, 4), (7, 9)], []):
                self.assertTrue(some != Places(at_base(base, other)))
                self.assertFalse(some == Places(at_base(base, other)))

    def test_places_are_not_equal_to_any_value_of_another_class(self):
        for value in any_values():
            if not isinstance(value, Places):
                for places in (Places(), Places([(0, 3)]), Places([(0, 0)])):
                    self.assertIs(places == value, False)
                    self.assertIs(value == places, False)
                    self.assertIs(places != value, True)
        self.assertFalse(Places([(0, 3)]) == ((0, 3),))

    def test_what_was_passed_stays_and_has_no_later_effect(self):
        told = [[7, 9], (0, 3), [4, 4]]
        places = Places(told)
        self.assertEqual(told, [[7, 9], (0, 3), [4, 4]])
        told[0][0] = 0
        told[2].append(5)
        told.append((20, 30))
        self.assertEqual(places.stretches, ((0, 4), (7, 9)))
        self.assertEqual(places.size(), 8)

    def test_many_stretches(self):
        rows = [(3 * k, 3 * k + 1) for k in range(3000)]
        places = Places(rows[::-1])
        self.assertEqual(places.stretches, tuple(rows))
        self.assertEqual([places[2 * k] for k in range(3000)], [3 * k for k in range(3000)])
        self.assertEqual([places.rank(3 * k) for k in range(3000)], [2 * k for k in range(3000)])


class WrongStretches(unittest.TestCase):
    def refused(self, told, index):
        with self.assertRaises(BadStretch) as caught:
            Places(told)
        self.assertEqual(caught.exception.index, index)

    def wrong_elements(self):
        ends = [True, False, "", "0", "3", None, -1, -FAR, FAR + 1, BIG, (), [], (1,), {}, Places(), Line(0, 0)]
        rows = [(1, 0), (9, 3), (FAR, FAR - 1), (-1, 3), (-4, -2), (0, FAR + 1), (FAR + 1, FAR + 2)]
        rows += [(end, FAR) for end in ends] + [(0, end) for end in ends] + [(end, end) for end in ends]
        rows += [(), (0,), (0, 1, 2), (0, 1, 2, 3)]
        rows += [list(row) for row in rows]
        return rows + [value for value in any_values() if value != (0, 1) and value != [0, 1]]

    def test_each_wrong_element_alone(self):
        for wrong in self.wrong_elements():
            self.refused([wrong], 0)
            self.refused((wrong,), 0)

    def test_the_index_of_the_first_wrong_element_among_right_ones(self):
        right = [(5, 9), [0, 0], (FAR, FAR), (7, 8)]
        for wrong in self.wrong_elements():
            for at in range(len(right) + 1):
                self.refused(right[:at] + [wrong] + right[at:], at)
                self.refused(tuple(right[:at] + [wrong, wrong] + right[at:] + [None]), at)

    def test_right_lists_are_taken(self):
        for told, size in (([(0, 0)], 1), ([(FAR, FAR)], 1), ([(0, 0), (FAR, FAR)], 2), ([[0, FAR]], FAR + 1),
                           (((3, 3),), 1), ([(3, 4), [1, 2]], 4), ([], 0), ((), 0)):
            self.assertEqual(Places(told).size(), size)


class Members(unittest.TestCase):
    def test_every_small_set(self):
        for base in (0, 10 ** 15, FAR - 6):
            for chosen in itertools.product((False, True), repeat=7):
                inside = [base + x for x in range(7) if chosen[x]]
                places = Places([(x, x) for x in inside])
                self.assertEqual(places.size(), len(inside))
                self.assertEqual([places[k] for k in range(len(inside))], inside)
                self.assertEqual(places.least(), inside[0] if inside else None)
                self.assertEqual(places.greatest(), inside[-1] if inside else None)
                for x in range(base - 3, base + 10):
                    self.assertIs(x in places, x in inside)
                    self.assertEqual(places.rank(x), len([y for y in inside if y < x]))

    def test_any_value_may_be_asked_for(self):
        whole = Places([(0, FAR)])
        for value in any_values():
            right = isinstance(value, int) and not isinstance(value, bool) and 0 <= value <= FAR
            self.assertIs(value in whole, right)
            self.assertIs(value in Places(), False)
        for x in (0, 1, FAR - 1, FAR):
            self.assertIn(x, whole)
        for x in (-1, -FAR, FAR + 1, BIG, -BIG):
            self.assertNotIn(x, whole)

    def test_true_and_false_are_not_places(self):
        self.assertNotIn(True, Places([(0, 1)]))
        self.assertNotIn(False, Places([(0, 1)]))

    def test_far_places_by_their_number(self):
        places = Places([(0, 9), (20, FAR - 20), (FAR - 9, FAR)])
        size = 10 + FAR - 39 + 10
        self.assertEqual(places.size(), size)
        for k, x in ((0, 0), (9, 9), (10, 20), (11, 21), (size - 11, FAR - 20), (size - 10, FAR - 9), (size - 1, FAR)):
            self.assertEqual(places[k], x)
            self.assertEqual(places.rank(x), k)
            self.assertEqual(places.rank(places[k] + 1), k + 1)

    def refused(self, places, k):
        with self.assertRaises(NoPlace) as caught:
            places[k]
        self.assertIs(caught.exception.place, k)

    def test_no_place_has_this_number(self):
        for places in (Places(), Places([(0, 0)]), Places([(0, 3), (7, 9)]), Places([(0, FAR)])):
            for k in (-1, -2, -FAR, places.size(), places.size() + 1, FAR + 1, FAR + 7, BIG, -BIG):
                self.refused(places, k)
            for k in no_integers():
                self.refused(places, k)

    def test_slices_and_bools_are_no_numbers(self):
        for k in (True, False, slice(0, 1)):
            self.refused(Places([(0, 9)]), k)

    def test_rank_at_beside_between_and_far_outside(self):
        for base in BASES:
            places = Places(at_base(base, [(2, 4), (8, 8), (10, 11)]))
            ranks = [0, 0, 0, 1, 2, 3, 3, 3, 3, 4, 4, 5, 6, 6]
            self.assertEqual([places.rank(base + x) for x in range(14)], ranks)
            self.assertEqual([places.rank(x) for x in (-1, -FAR, -BIG)], [0, 0, 0])
            self.assertEqual([places.rank(x) for x in (FAR + 1, BIG)], [6, 6])
        self.assertEqual([Places().rank(x) for x in (-1, 0, FAR)], [0, 0, 0])

    def test_least_and_greatest(self):
        self.assertEqual((Places().least(), Places().greatest()), (None, None))
        places = Places([(7, FAR), (3, 4)])
        self.assertEqual((places.least(), places.greatest()), (3, FAR))

    def test_places_are_not_iterated_over(self):
        for places in (Places(), Places([(0, 3)])):
            with self.assertRaises(TypeError):
                iter(places)
            with self.assertRaises(TypeError):
                list(places)
            with self.assertRaises(TypeError):
                for _ in places:
                    pass

    def test_the_listed_methods_are_defined_in_the_class(self):
        listed = ("size", "rank", "least", "greatest", "within", "shifted", "mirrored", "inner", "text", "read",
                  "__bool__", "__contains__", "__eq__", "__getitem__", "__or__", "__and__", "__sub__", "__xor__")
        self.assertEqual([name for name in listed if name not in vars(Places)], [])
        self.assertEqual(Places.__module__, "openranges.places")


if __name__ == "__main__":
    unittest.main()
