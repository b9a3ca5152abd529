"""Point 24: texts of clauses, read back, and the first wrong word of all others."""

import unittest

from openranges.clauses import Answers, Bound, Needs, Pair, Refuses, Spreads, Step
from openranges.errors import BadText
from openranges.places import Places
from openranges.texts import read_clause
from tests.grammar import Grammar
from tests.plain import chance_of, some_clause
from tests.test_clauses import all_made
from tests.values import BIG, FAR, any_values

SPOILT = ("", " ", "none", "0", "1", "-1", "-0", "00", "01", "+3", "+", "-", "x", "-x", "2", "-2", "7", "+x", "--2", "2x", "x3", "0-3", "3-0",
          "3-3", "03-5", "3-", "-3", "4-05", "5-9-12", "11", "20-30", str(FAR), str(FAR + 1), f"0-{FAR}", f"0-{FAR + 1}", str(BIG), f"-{BIG}",
          "<=", ">=", "=", "<", "==", "=<", "up", "down", "Up", "left", "f", "g", "h", "F", "abcdefgh", "abcdefghi", "f1", "answers", "refuses",
          "needs", "spreads", "bound", "pair", "step", "Bound", "line", "\u0663", "\u00b2", "3\u0663", "\u00e9", "1\n", "f\n", "3\t", "1.0", "1_0", "1e3")


def wrong_index(text):
    """The index that is told for a text, or None if it is read."""
    try:
        clause = read_clause(text)
    except BadText as error:
        assert type(error) is BadText
        return error.index
    assert clause.text() == text
    return None


def spoilt(chance, words):
    """The words with one thing changed."""
    words = list(words)
    at = chance.randrange(len(words) + 1)
    way = chance.randrange(6)
    if way == 0 or at == len(words):
        words.insert(at, chance.choice(SPOILT))
    elif way == 1:
        del words[at]
    elif way == 2:
        words.insert(at, words[at])
    elif way == 3:
        other = chance.randrange(len(words))
        words[at], words[other] = words[other], words[at]
    else:
        words[at] = chance.choice(SPOILT)
    return words


class Read(unittest.TestCase):
    def test_each_kind(self):
        kinds = {}
        for kind, _, clause in all_made():
            again = read_clause(clause.text())
            self.assertIs(type(again), type(clause))
            self.assertTrue(again == clause)
            kinds[kind] = kinds.get(kind, 0) + 1
        self.assertEqual(len(kinds), 7)

    def test_drawn_ones(self):
        chance = chance_of(261)
        for _ in range(1500):
            clause = some_clause(chance, ("f", "g", "h"), chance.choice((9, 30, FAR)), most=chance.choice((3, 100, BIG)))
            self.assertTrue(read_clause(clause.text()) == clause, clause.text())

    def test_all_lines(self):
        for slope in (0, 1, -1, 2, -2, 10, BIG, -BIG):
            for height in (0, 1, -1, 2, -10, BIG, -BIG, BIG * BIG):
                for places in (Places(), Places([(7, 7)]), Places([(0, 3), (5, 5), (FAR, FAR)])):
                    for sign in ("<=", ">=", "="):
                        for clause in (Bound("f", places, sign, slope, height), Pair("f", places, sign, "up", slope, height),
                                       Step("none", places, sign, height)):
                            self.assertTrue(read_clause(clause.text()) == clause, clause.text())

    def test_functions_that_are_called_like_other_words(self):
        for word in ("answers", "none", "up", "x", "bound"):
            for clause in (Answers(word, Places([(0, 3)])), Refuses(word, Places()), Needs(word, Places(), "down"), Needs("f", Places([(1, 1)]), word),
                           Spreads(word, Places(), "up"), Pair("f", Places([(1, 1)]), "=", word, 1, 0), Pair(word, Places(), "=", "f", 2, -3)):
                self.assertTrue(read_clause(clause.text()) == clause)

    def test_very_long_numbers(self):
        for many in (59, 60, 61, 900, 5000):
            clause = Step("f", Places(), "<=", int("7" * 59) * 10 ** (many - 59) + 3)
            self.assertTrue(read_clause(clause.text()) == clause)


class Wrong(unittest.TestCase):
    def test_what_is_no_string(self):
        for value in any_values():
            if not isinstance(value, str):
                self.assertEqual(wrong_index(value), 0, value)

    def test_written_ones(self):
        wanted = {
            "": 0, " ": 0, "f": 0, "answers": 1, "answers f": 2, "answers F": 1, "answers  f": 1, " answers f 0": 0, "answers f 0 ": 3,
            "answers f 3-0": 2, "answers f 3-3": 2, "answers f 03": 2, "answers f 0-3 4": 3, "answers f 0-3 5": None, "answers f 0-3 5-5": 3,
            "answers f 0-3 x": 3, "answers f none": None, "answers f none 3": 3, "answers f 3 none": 3, "answers f none none": 3,
            f"refuses f {FAR}": None, f"refuses f {FAR + 1}": 2, f"refuses f 0-{FAR + 1}": 2, "refuses f 5-3": 2, "refuses f -3": 2,
            "needs f 0-3": 3, "needs f 0-3 f": 3, "needs f 0-3 g": None, "needs f 0-3 g h": 4, "needs f g": 2, "needs f none g": None,
            "needs f 0-3 3g": 3, "spreads f 0-3": 3, "spreads f 0-3 up": None, "spreads f 0-3 Up": 3, "spreads f 0-3 up down": 4,
            "bound f 0-3": 3, "bound f 0-3 <": 3, "bound f 0-3 <=": 4, "bound f 0-3 <= 0": None, "bound f 0-3 <= -0": 4, "bound f 0-3 <= +3": 4,
            "bound f 0-3 <= 0 x": 5, "bound f 0-3 <= 1 x": 5, "bound f 0-3 <= -1 x": 5, "bound f 0-3 <= 1": None, "bound f 0-3 <= 2 x": None,
            "bound f 0-3 <= 2 y": 5, "bound f 0-3 <= x": None, "bound f 0-3 <= -x": None, "bound f 0-3 <= +x": 4, "bound f 0-3 <= x 3": 5,
            "bound f 0-3 <= x +": 6, "bound f 0-3 <= x + 0": 6, "bound f 0-3 <= x + -3": 6, "bound f 0-3 <= x - 3": None,
            "bound f 0-3 <= x + 3 4": 7, "bound f 0-3 <= 3 + x": 5, "bound f 0-3 <= 2 x + x": 7, "bound f 0-3 <= 02": 4, "bound f 0-3 <= + 3": 4,
            "bound f 0-3 <= x + 03": 6, "bound f <= 3": 2, "bound f 0-3 g": 3, "bound f 0-3 <= -": 4, "bound f 0-3 <= - x": 4,
            "pair f 0-3 <=": 4, "pair f 0-3 <= f": 4, "pair f 0-3 <= g": None, "pair f 0-3 <= g +": 6, "pair f 0-3 <= g 3": 5,
            "pair f 0-3 <= g + 0": 6, "pair f 0-3 <= g - 0": 6, "pair f 0-3 <= g + 1 x": 7, "pair f 0-3 <= g - 2 x + 3": None,
            "pair f 0-3 <= g - x": None, "pair f 0-3 <= g - -x": 6, "pair f 0-3 <= g + -3": 6, "pair f 0-3 <= g x": 5, "pair f 0-3 <= 3": 4,
            "pair f 0-3 <= g + 3": None, "pair f 0-3 <= g + 3 + 4": 7, "pair f 0-3 <= g + 2 x - 0": 9, "pair f 0-3 <= g + 2 x -": 9,
            "pair f 0-3 g <= 3": 3, "step f 0-3 <=": 4, "step f 0-3 <= 0": None, "step f 0-3 <= -0": 4, "step f 0-3 <= -5": None,
            "step f 0-3 <= 5 x": 5, "step f 0-3 <= x": 4, "step f 0-3 <= 05": 4, "steps f 0-3 <= 5": 0, "step abcdefghi 0-3 <= 5": 1,
        }
        for text, index in wanted.items():
            self.assertEqual(wrong_index(text), index, text)
            self.assertEqual(Grammar().first_wrong(text.split(" ")), index, text)

    def test_one_thing_changed(self):
        chance = chance_of(262)
        told = [clause for _, _, clause in all_made()]
        found = {}
        for _ in range(30000):
            words = chance.choice(told).text().split(" ")
            for _ in range(chance.choice((1, 1, 2))):
                words = spoilt(chance, words)
            index = wrong_index(" ".join(words))
            self.assertEqual(index, Grammar().first_wrong(" ".join(words).split(" ")), words)
            key = "read" if index is None else "early" if index == len(words) else min(index, 7)
            found[key] = found.get(key, 0) + 1
        self.assertEqual(len(found), 10)
        self.assertGreater(min(found.values()), 100, found)

    def test_each_word_of_each_kind(self):
        for text in ("answers f 0-3 7", "refuses g none", "needs f 0-3 7 g", "spreads f 2 5-9 down", "bound f 0-3 7 <= -2 x + 21",
                     "pair f 0-9 = g - x + 2", "pair f 0-9 >= g - 12 x - 2", "step f 4-7 >= -4"):
            words = text.split(" ")
            for at in range(len(words) + 1):
                changes = [words[:at] + [word] + words[at:] for word in SPOILT]
                changes += [words[:at] + [word] + words[at + 1:] for word in SPOILT]
                changes += [words[:at], words[:at] + words[at + 1:], words[:at] + words[at:at + 1] + words[at:]]
                for other in range(at):
                    swapped = list(words)
                    if at < len(words):
                        swapped[at], swapped[other] = swapped[other], swapped[at]
                    changes.append(swapped)
                for changed in changes:
                    told = " ".join(changed)
                    self.assertEqual(wrong_index(told), Grammar().first_wrong(told.split(" ")), told)


if __name__ == "__main__":
    unittest.main()
