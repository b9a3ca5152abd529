"""Point 9: texts of sets of places, and how they are read."""

import itertools
import unittest

from openranges.errors import BadText
from openranges.places import Places
from tests.values import FAR, any_values


class Texts(unittest.TestCase):
    def test_each_form(self):
        self.assertEqual(Places().text(), "none")
        self.assertEqual(Places([(0, 0)]).text(), "0")
        self.assertEqual(Places([(0, 1)]).text(), "0-1")
        self.assertEqual(Places([(7, 9), (0, 3), (4, 4), (11, 11)]).text(), "0-4 7-9 11")
        self.assertEqual(Places([(0, FAR)]).text(), "0-1" + 30 * "0")
        self.assertEqual(Places([(5, 5), (FAR, FAR)]).text(), "5 1" + 30 * "0")

    def test_there_and_back(self):
        for base in (0, 97, FAR - 6):
            for chosen in itertools.product((False, True), repeat=7):
                places = Places([(base + x, base + x) for x in range(7) if chosen[x]])
                self.assertEqual(Places.read(places.text()), places)
                self.assertIsInstance(Places.read(places.text()), Places)

    def test_read_and_back(self):
        for text in ("none", "0", "10", "0-4 7-9", "0 2 4-5 7", "0-1" + 30 * "0", "9-10 100-1000"):
            self.assertEqual(Places.read(text).text(), text)
        self.assertEqual(Places.read("0-4 7").stretches, ((0, 4), (7, 7)))


class WrongTexts(unittest.TestCase):
    def refused(self, value, index):
        with self.assertRaises(BadText) as caught:
            Places.read(value)
        self.assertEqual(caught.exception.index, index, value)

    def wrong_words(self):
        far, beyond = str(FAR), str(FAR + 1)
        words = ["00", "01", "007", "00-3", "01-3", "0-03", "20-021", "3-2", "30-20", "5-5", "0-0", "-", "--"]
        words += ["5-", "-5", "-0", "+5", "5-+6", "5--6", "1-2-3", "1-2-", "5_0", "5.", "5,6", "0x5", "1e3", "a", "f"]
        words += ["5a", "a5", "5-a", "None", "NONE", "nones", "none-5", "5-none", "\t5", "5\t", "5\n", "\u0665", "\u00b2"]
        words += ["5\u20136", beyond, "5-" + beyond, beyond + "-" + str(FAR + 2), "9" * 31, "1" + "0" * 31]
        return words + ["9" * 5000, "5-" + "9" * 5000, "0" * 40, far + "-" + far, far + "-5"]

    def test_each_wrong_word_alone_and_behind_right_ones(self):
        for word in self.wrong_words():
            self.refused(word, 0)
            self.refused(word + " 20", 0)
            self.refused(word + " " + word, 0)
            self.refused("0 2-3 " + word, 2)
            self.refused("0 2-3 " + word + " 20", 2)
            self.refused("0 2-3 " + word + " none", 2)

    def test_empty_words(self):
        self.refused("", 0)
        self.refused(" ", 0)
        self.refused(" 5", 0)
        self.refused("5 ", 1)
        self.refused("5  7", 1)
        self.refused("5 7  9", 2)
        self.refused("5 7 ", 2)
        self.refused(" none", 0)
        self.refused("none ", 1)
        self.refused("  ", 0)

    def test_none_stands_alone(self):
        self.refused("5 none", 1)
        self.refused("5-7 9 none", 2)
        self.refused("none 5", 1)
        self.refused("none none", 1)
        self.refused("none 5 x", 1)
        self.refused("none x", 1)

    def test_a_word_begins_two_places_behind_the_one_before(self):
        self.refused("3-4 5", 1)
        self.refused("3-4 4", 1)
        self.refused("3-4 3", 1)
        self.refused("3-4 0-1", 1)
        self.refused("3-4 5-9", 1)
        self.refused("3 4", 1)
        self.refused("3 3", 1)
        self.refused("0-4 6 7-9", 2)
        self.refused("0-4 6 5", 2)
        self.refused(f"{FAR - 3}-{FAR - 1} {FAR}", 1)
        self.assertEqual(Places.read("3-4 6").text(), "3-4 6")
        self.assertEqual(Places.read(f"{FAR - 3}-{FAR - 2} {FAR}").size(), 3)

    def test_the_first_wrong_word_is_told(self):
        self.refused("0 01 x", 1)
        self.refused("0 x 01 none", 1)
        self.refused("0 2 1 x", 2)

    def test_numbers_up_to_the_last_place(self):
        self.assertEqual(Places.read(str(FAR)), Places([(FAR, FAR)]))
        self.assertEqual(Places.read(f"0-{FAR}"), Places([(0, FAR)]))

    def test_what_is_not_a_string(self):
        for value in any_values():
            if not isinstance(value, str):
                self.refused(value, 0)
        self.refused(b"5", 0)


if __name__ == "__main__":
    unittest.main()
