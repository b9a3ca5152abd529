"""Point 11: clauses, their errors, attributes, equality and texts."""

import itertools
import unittest

from openranges import clauses
from openranges.clauses import Answers, Bound, Needs, Pair, Refuses, Spreads, Step
from openranges.errors import BadSign, BadWord, SameFunction
from openranges.lines import Line
from openranges.places import Places
from tests.values import BIG, FAR, any_values

SOME = Places([(0, 3), (7, 7)])
EVERY = Places([(0, FAR)])
NO_WORDS = ["", "abcdefghi", "F", "fG", "f1", "7", "a b", "f_", " f", "f\n", "\u00e9", "\u00df", None, 0, 7, -1, True, False]
WORDS = ["f", "g", "z", "abcdefgh", "none", "up"]
NO_SIGNS = ["", "<", ">", "==", "=<", "=>", "<= ", "!=", "up", None, 0, 1, -1, True, False]
NO_WAYS = ["", "Up", "UP", "upp", "left", "<=", "=", None, 0, 1, -1, True, False]
CLASSES = (Answers, Refuses, Needs, Spreads, Bound, Pair, Step)
KINDS = ("answers", "refuses", "needs", "spreads", "bound", "pair", "step")
ARGUMENTS = {
    "answers": ("function", "places"),
    "refuses": ("function", "places"),
    "needs": ("function", "places", "other"),
    "spreads": ("function", "places", "way"),
    "bound": ("function", "places", "sign", "slope", "height"),
    "pair": ("function", "places", "sign", "other", "slope", "height"),
    "step": ("function", "places", "sign", "height"),
}
CHOICES = {
    "function": ("f", "h", "abcdefgh"), "other": ("g", "k"), "way": ("up", "down"), "sign": ("<=", ">=", "="),
    "places": (SOME, Places(), EVERY), "slope": (0, 1, -1, 7, -BIG), "height": (0, 1, -1, 12, BIG),
}


def made(kind, **other):
    """A clause of a kind, with the first of the choices but for what is named."""
    arguments = [other.get(name, CHOICES[name][0]) for name in ARGUMENTS[kind]]
    return CLASSES[KINDS.index(kind)](*arguments)


def all_made():
    for kind in KINDS:
        for arguments in itertools.product(*[CHOICES[name] for name in ARGUMENTS[kind]]):
            yield kind, arguments, CLASSES[KINDS.index(kind)](*arguments)


class Errors(unittest.TestCase):
    def refused(self, error, field, value, kind, **told):
        with self.assertRaises(error) as caught:
            made(kind, **told)
        self.assertIs(type(caught.exception), error)
        self.assertIs(getattr(caught.exception, field), value)

    def test_words(self):
        for kind in KINDS:
            for word in WORDS[:4] + ["none"]:
                self.assertEqual(made(kind, function=word if word != "g" else "gg").kind, kind)
            for value in NO_WORDS:
                self.refused(BadWord, "word", value, kind, function=value)
        for kind in ("needs", "pair"):
            for word in WORDS[1:]:
                self.assertEqual(made(kind, other=word).other, word)
            for value in NO_WORDS:
                self.refused(BadWord, "word", value, kind, other=value)

    def test_any_values_are_no_words_signs_and_ways(self):
        for value in any_values():
            if value != "f" and value != "none":
                for kind in KINDS:
                    self.refused(BadWord, "word", value, kind, function=value)
                for kind in ("needs", "pair"):
                    self.refused(BadWord, "word", value, kind, other=value)
            for kind in ("bound", "pair", "step"):
                self.refused(BadSign, "sign", value, kind, sign=value)
            self.refused(BadSign, "sign", value, "spreads", way=value)

    def test_the_same_function_twice(self):
        for kind in ("needs", "pair"):
            for word in WORDS:
                self.refused(SameFunction, "function", word, kind, function=word, other=word)

    def test_signs_and_ways(self):
        for kind in ("bound", "pair", "step"):
            for sign in ("<=", ">=", "="):
                self.assertEqual(made(kind, sign=sign).sign, sign)
            for value in NO_SIGNS:
                self.refused(BadSign, "sign", value, kind, sign=value)
        for way in ("up", "down"):
            self.assertEqual(made("spreads", way=way).way, way)
        for value in NO_WAYS:
            self.refused(BadSign, "sign", value, "spreads", way=value)

    def test_the_first_error_is_told(self):
        for function, other in itertools.product(["f"] + NO_WORDS, ["f", "g"] + NO_WORDS):
            for sign in ("<=", "up", "", None, True):
                wrong = [word for word in (function, other) if word in NO_WORDS]
                for kind in ("needs", "pair"):
                    told = {"function": function, "other": other}
                    if kind == "pair":
                        told["sign"] = sign
                    if wrong:
                        self.refused(BadWord, "word", wrong[0], kind, **told)
                    elif function == other:
                        self.refused(SameFunction, "function", "f", kind, **told)
                    elif kind == "pair" and sign != "<=":
                        self.refused(BadSign, "sign", sign, kind, **told)
                    else:
                        made(kind, **told)
        for function, sign in itertools.product(NO_WORDS, ["<", None, True, 3]):
            for kind, name in (("bound", "sign"), ("step", "sign"), ("spreads", "way")):
                self.refused(BadWord, "word", function, kind, **{"function": function, name: sign})


class Attributes(unittest.TestCase):
    def test_kinds_and_arguments(self):
        for kind, arguments, clause in all_made():
            self.assertEqual(clause.kind, kind)
            self.assertEqual([getattr(clause, name) for name in ARGUMENTS[kind]], list(arguments))
            self.assertEqual({"kind", *ARGUMENTS[kind]} - set(vars(clause)), set())

    def test_functions_told(self):
        for kind, arguments, clause in all_made():
            functions = (clause.function, clause.other) if kind in ("needs", "pair") else (clause.function,)
            self.assertEqual(clause.functions_told(), functions)
            self.assertIs(type(clause.functions_told()), tuple)

    def test_lines(self):
        for kind, arguments, clause in all_made():
            if kind in ("bound", "pair"):
                self.assertIs(type(clause.line()), Line)
                self.assertTrue(clause.line() == Line(clause.slope, clause.height))

    def test_places_with_whatever_stretches(self):
        clause = Answers("f", Places([(4, 4), (0, 3)]))
        self.assertTrue(clause == Answers("f", Places([(0, 4)])))

    def test_the_listed_methods_are_defined_in_each_class(self):
        listed = ["functions_told", "negated", "times", "moved", "mirrored", "text", "__eq__", "__init__"]
        for each in CLASSES:
            names = listed + (["line"] if each in (Bound, Pair) else [])
            self.assertEqual([name for name in names if name not in vars(each)], [])
            self.assertEqual(each.__module__, clauses.__name__)


class Equality(unittest.TestCase):
    def test_equal_arguments(self):
        for kind, arguments, clause in all_made():
            again = CLASSES[KINDS.index(kind)](*arguments)
            self.assertIs(clause == again, True)
            self.assertIs(clause != again, False)

    def test_one_argument_differs(self):
        for kind, arguments, clause in all_made():
            for at, name in enumerate(ARGUMENTS[kind]):
                for choice in CHOICES[name]:
                    other = CLASSES[KINDS.index(kind)](*arguments[:at], choice, *arguments[at + 1:])
                    self.assertIs(clause == other, arguments[at] == choice)

    def test_kinds_differ(self):
        pairs = [(Answers("f", SOME), Refuses("f", SOME)), (Needs("f", SOME, "up"), Spreads("f", SOME, "up"))]
        pairs += [(Bound("f", SOME, "<=", 0, 3), Step("f", SOME, "<=", 3))]
        pairs += [(Pair("f", SOME, "<=", "g", 0, 3), Bound("f", SOME, "<=", 0, 3))]
        pairs += [(Pair("f", SOME, "<=", "g", 0, 3), Pair("g", SOME, "<=", "f", 0, 3))]
        for one, other in pairs:
            self.assertIs(one == other, False)
            self.assertIs(other == one, False)
        for one, other in itertools.product(KINDS, KINDS):
            self.assertIs(made(one) == made(other), one == other)

    def test_no_other_value_is_equal(self):
        for kind in KINDS:
            clause = made(kind)
            arguments = tuple(getattr(clause, name) for name in ARGUMENTS[kind])
            for value in any_values() + [arguments, list(arguments), (kind, *arguments), clause.text(), vars(clause)]:
                self.assertIs(clause == value, False)
                self.assertIs(value == clause, False)
                self.assertIs(clause != value, True)


class Texts(unittest.TestCase):
    def test_the_examples_of_the_document(self):
        told = [Bound("f", Places([(0, 9)]), "<=", 2, 3).mirrored(9).text()]
        told += [Step("f", Places([(2, 5)]), "<=", 4).mirrored(9).text()]
        self.assertEqual(told, ["bound f 0-9 <= -2 x + 21", "step f 4-7 >= -4"])
        told = [Pair("f", Places([(0, 9)]), "=", "g", 0, -1).negated().text()]
        told += [Spreads("f", Places([(2, 5)]), "up").moved(1).text()]
        self.assertEqual(told, ["pair f 0-9 = g + 1", "spreads f 3-6 up"])

    def test_places_none_one_and_many(self):
        for places, text in ((Places(), "none"), (Places([(4, 4)]), "4"), (SOME, "0-3 7"), (EVERY, f"0-{FAR}")):
            wanted = [f"answers f {text}", f"refuses f {text}", f"needs f {text} g", f"spreads f {text} up"]
            wanted += [f"bound f {text} <= 0", f"pair f {text} <= g", f"step f {text} <= 0"]
            self.assertEqual([made(kind, places=places).text() for kind in KINDS], wanted)

    def test_words_ways_and_signs(self):
        self.assertEqual(Needs("abcdefgh", SOME, "zz").text(), "needs abcdefgh 0-3 7 zz")
        self.assertEqual(Spreads("h", SOME, "down").text(), "spreads h 0-3 7 down")
        for sign in ("<=", ">=", "="):
            self.assertEqual(Bound("f", SOME, sign, 2, -3).text(), f"bound f 0-3 7 {sign} 2 x - 3")
            self.assertEqual(Pair("f", SOME, sign, "g", 2, -3).text(), f"pair f 0-3 7 {sign} g + 2 x - 3")
            self.assertEqual(Step("f", SOME, sign, -3).text(), f"step f 0-3 7 {sign} -3")

    def test_lines(self):
        wanted = {
            (0, 0): ("0", ""), (0, 1): ("1", " + 1"), (0, -1): ("-1", " - 1"), (0, 12): ("12", " + 12"),
            (1, 0): ("x", " + x"), (-1, 0): ("-x", " - x"), (3, 0): ("3 x", " + 3 x"), (-3, 0): ("-3 x", " - 3 x"),
            (1, 1): ("x + 1", " + x + 1"), (1, -1): ("x - 1", " + x - 1"), (-1, 1): ("-x + 1", " - x + 1"),
            (-1, -1): ("-x - 1", " - x - 1"), (-1, 2): ("-x + 2", " - x + 2"), (2, 9): ("2 x + 9", " + 2 x + 9"),
            (-2, -9): ("-2 x - 9", " - 2 x - 9"), (FAR, -BIG): (f"{FAR} x - {BIG}", f" + {FAR} x - {BIG}"),
            (-FAR, BIG): (f"-{FAR} x + {BIG}", f" - {FAR} x + {BIG}"),
        }
        for (slope, height), (bound, pair) in wanted.items():
            self.assertEqual(Bound("f", SOME, "=", slope, height).text(), f"bound f 0-3 7 = {bound}")
            self.assertEqual(Pair("f", SOME, ">=", "g", slope, height).text(), f"pair f 0-3 7 >= g{pair}")

    def test_heights_of_steps(self):
        for height in (0, 1, -1, 12, -12, FAR, -BIG):
            self.assertEqual(Step("f", SOME, "=", height).text(), f"step f 0-3 7 = {height}")
        long = 10 ** 5000
        self.assertEqual(Step("f", SOME, "=", -long).text(), "step f 0-3 7 = -1" + 5000 * "0")
        self.assertEqual(Pair("f", SOME, "=", "g", 0, -long).text(), "pair f 0-3 7 = g - 1" + 5000 * "0")


if __name__ == "__main__":
    unittest.main()
