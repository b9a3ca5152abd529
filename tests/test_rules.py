"""Point 13: rules, what they hold, and the errors in their order."""

import itertools
import unittest

from openranges.clauses import Answers, Bound, Needs, Pair, Refuses, Spreads, Step
from openranges.errors import BadFunctions, BadWord, NoClause, NoFunction, NoPlace, TooMany, Twice
from openranges.places import Places
from openranges.rules import Rules
from tests.values import FAR, any_values

EVERY = Places([(0, 9)])
TOLD = [Answers("f", EVERY), Needs("g", EVERY, "f"), Step("f", EVERY, "<=", 1), Bound("g", Places(), "=", 1, 2)]
NO_WORDS = ("", "F", "f1", "abcdefghi", None, 0, 7, True)
NO_PLACES = (-1, FAR + 1, None, True, False, "9", "")


class Made(unittest.TestCase):
    def test_attributes(self):
        for functions, told in (((["f", "g"]), TOLD), (("g", "f"), tuple(TOLD)), (["h", "f", "g"], [])):
            rules = Rules(functions, 9, told)
            self.assertEqual((rules.functions, rules.last), (tuple(functions), 9))
            self.assertEqual((type(rules.functions), type(rules.told)), (tuple, tuple))
            self.assertTrue(rules.told == tuple(told))

    def test_lists_that_are_changed_behind(self):
        functions, told = ["f", "g"], list(TOLD)
        rules = Rules(functions, 9, told)
        functions.append("h")
        functions[0] = "z"
        told.clear()
        self.assertEqual(rules.functions, ("f", "g"))
        self.assertTrue(rules.told == tuple(TOLD))
        self.assertTrue(rules == Rules(["f", "g"], 9, TOLD))

    def test_the_limits_themselves(self):
        self.assertEqual(Rules(["f"], 0, []).last, 0)
        self.assertEqual(Rules(["f", "g", "h"], FAR, [Answers("h", Places([(0, FAR)]))]).last, FAR)
        self.assertEqual(len(Rules(["f"], 9, [Answers("f", EVERY)] * 60).told), 60)

    def test_equality(self):
        rules = Rules(["f", "g"], 9, TOLD)
        self.assertIs(rules == Rules(("f", "g"), 9, tuple(TOLD)), True)
        self.assertIs(rules != Rules(("f", "g"), 9, tuple(TOLD)), False)
        others = [Rules(["g", "f"], 9, TOLD), Rules(["f", "g"], 10, TOLD), Rules(["f", "g", "h"], 9, TOLD)]
        others += [Rules(["f", "g"], 9, TOLD[:-1]), Rules(["f", "g"], 9, TOLD + TOLD[-1:]), Rules(["f", "g"], 9, [])]
        others += [Rules(["f", "g"], 9, [TOLD[1], TOLD[0]] + TOLD[2:])]
        others += [Rules(["f", "g"], 9, TOLD[:2] + [Step("f", EVERY, "<=", 2)] + TOLD[3:])]
        for other in others:
            self.assertIs(rules == other, False)
            self.assertIs(rules != other, True)
        for value in any_values() + [(("f", "g"), 9, tuple(TOLD))]:
            self.assertIs(rules == value, False)
            self.assertIs(value == rules, False)


class Errors(unittest.TestCase):
    def refused(self, error, fields, functions, last, told):
        with self.assertRaises(error) as caught:
            Rules(functions, last, told)
        self.assertIs(type(caught.exception), error)
        found = tuple(vars(caught.exception).values())
        self.assertEqual(found, fields)
        self.assertEqual([type(value) for value in found], [type(value) for value in fields])

    def wrong_told(self):
        """Lists of clauses over f and g up to 9, with the error that is due."""
        wide = Places([(3, 5), (8, 12), (20, 21)])
        beyond = Places([(FAR, FAR)])
        yield TooMany, (61,), [Answers("f", EVERY)] * 61
        yield TooMany, (75,), [None] * 75
        for value in any_values():
            for at in (0, 1, 4):
                yield NoClause, (at,), TOLD[:at] + [value] + [Answers("z", wide)]
        for index, clause in ((0, [Answers("f", EVERY)]), (1, TOLD)):
            yield NoClause, (len(clause),), clause + [clause]
        for word in ("h", "z"):
            yield NoFunction, (word,), TOLD + [Refuses(word, wide), None]
            yield NoFunction, (word,), [Pair(word, wide, "=", "y", 0, 0)] + TOLD
            yield NoFunction, (word,), [Needs("f", wide, word), Answers("x", EVERY)]
            yield NoFunction, (word,), [Spreads(word, Places(), "up")]
        yield NoPlace, (10,), TOLD + [Refuses("f", wide), None]
        yield NoPlace, (20,), [Answers("g", Places([(0, 9), (20, 21)])), Answers("z", EVERY)]
        yield NoPlace, (FAR,), [Pair("f", beyond, "=", "g", 0, 0)]
        yield NoPlace, (12,), [Step("f", Places([(12, 12), (3, 3)]), "=", 0)]

    def test_wrong_clauses(self):
        for error, fields, told in self.wrong_told():
            self.refused(error, fields, ["f", "g"], 9, told)
            self.refused(error, fields, ("f", "g"), 9, tuple(told))

    def test_wrong_last_places(self):
        lists = [told for _, _, told in self.wrong_told()][::7] + [[], TOLD]
        for last, told in itertools.product(NO_PLACES, lists):
            self.refused(NoPlace, (last,), ["f", "g"], last, told)

    def test_wrong_functions(self):
        for last, told in itertools.product((9, None, -1), ([], TOLD, [None] * 61)):
            self.refused(BadFunctions, (0,), [], last, told)
            self.refused(BadFunctions, (4,), ["f", "g", "h", "k"], last, told)
            self.refused(BadFunctions, (5,), [None] * 5, last, told)
            for word in NO_WORDS:
                self.refused(BadWord, (word,), [word], last, told)
                self.refused(BadWord, (word,), ["f", word, ""], last, told)
                self.refused(BadWord, (word,), ["f", "g", word], last, told)
                self.refused(Twice, ("f",), ["f", "f", word], last, told)
            self.refused(Twice, ("f",), ["f", "g", "f"], last, told)
            self.refused(Twice, ("g",), ["f", "g", "g"], last, told)


if __name__ == "__main__":
    unittest.main()
