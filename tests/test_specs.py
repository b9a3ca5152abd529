"""Point 21: specifications, their entries, and actions that are taken back."""

import unittest
from itertools import permutations

from openranges.clauses import Answers, Bound, Needs, Pair, Refuses, Spreads, Step
from openranges.errors import (BadFactor, BadFunctions, BadName, BadWord, Impossible, Known, NoFunction, NoPlace, OtherShape, TooMany,
                               Twice, Unknown)
from openranges.places import Places
from openranges.rules import Rules
from openranges.specs import Spec
from tests.plain import chance_of, some_clause
from tests.refusing import Refusing
from tests.values import BIG, FAR

EVERY = Places([(0, 9)])
NAMES = ("a", "z", "f", "none", "abcdefgh", "a1234567", "z9", "a0b", "functions"[:8], "last")
NO_NAMES = ("", "A", "aB", "1", "1a", "abcdefghi", "a12345678", "a_b", "a b", " a", "a ", "a\n", "\u00e9", "a\u0663", "a\u00b2", "-", None,
            0, 1, -1, FAR, True, False)
ANSWERS = Answers("f", EVERY)
BOUND = Bound("g", Places([(2, 5)]), "<=", 2, 5)
PAIR = Pair("f", EVERY, ">=", "g", 1, 0)


def filled(entries, functions=("f", "g"), last=9):
    spec = Spec(list(functions), last)
    for name, clause in entries:
        spec[name] = clause
    return spec


def some_spec(chance, functions=("f", "g"), last=9, many=6, names="abcdefgh"):
    entries = [(name, some_clause(chance, functions, last)) for name in chance.sample(names, chance.randint(0, many))]
    return filled(entries, functions, last)


def look(spec):
    """All that a specification tells of its entries."""
    return (spec.names, [(name, clause.text()) for name, clause in spec.entries], len(spec), [clause.text() for clause in spec.rules.told])


class Checks(Refusing):
    def is_like(self, spec, entries, functions=("f", "g"), last=9):
        """Whether a specification has just these entries, by all that it tells."""
        self.assertIs(type(spec), Spec)
        self.assertEqual((type(spec.names), type(spec.entries), type(spec.rules)), (tuple, tuple, Rules))
        self.assertEqual(spec.names, tuple([name for name, _ in entries]))
        self.assertEqual(len(spec), len(entries))
        self.assertTrue(spec.entries == tuple(entries))
        self.assertTrue(spec.rules == Rules(functions, last, [clause for _, clause in entries]))
        for name, clause in entries:
            self.assertTrue(spec[name] == clause)


class Made(Checks):
    def test_without_clauses(self):
        self.is_like(Spec(["f", "g"], 9), [])
        self.is_like(Spec(("g",), FAR), [], ("g",), FAR)
        self.is_like(Spec(["h", "f", "g"], 0), [], ("h", "f", "g"), 0)

    def test_the_errors_of_rules(self):
        self.refused(BadFunctions, 0, lambda: Spec([], -1))
        self.refused(BadFunctions, 4, lambda: Spec(["f", "f", "F", "h"], -1))
        for value in ("", "F", "a1", "abcdefghi", None, 1, True):
            self.refused(BadWord, value, lambda: Spec(["f", value, "f"], -1))
        self.refused(Twice, "f", lambda: Spec(["f", "g", "f"], -1))
        for value in (-1, FAR + 1, None, True, "9"):
            self.refused(NoPlace, value, lambda: Spec(["f"], value))

    def test_a_list_that_is_changed_behind(self):
        functions = ["f", "g"]
        spec = Spec(functions, 9)
        functions.append("h")
        self.assertEqual(spec.rules.functions, ("f", "g"))


class Entries(Checks):
    def test_new_names_at_the_end_and_known_ones_in_place(self):
        spec = Spec(["f", "g"], 9)
        spec["b"] = ANSWERS
        spec["a"] = BOUND
        spec["c9"] = ANSWERS
        self.is_like(spec, [("b", ANSWERS), ("a", BOUND), ("c9", ANSWERS)])
        spec["b"] = PAIR
        self.is_like(spec, [("b", PAIR), ("a", BOUND), ("c9", ANSWERS)])
        spec["c9"] = PAIR
        self.is_like(spec, [("b", PAIR), ("a", BOUND), ("c9", PAIR)])

    def test_rules_that_were_read_stay(self):
        spec = filled([("a", ANSWERS)])
        elder, names, entries = spec.rules, spec.names, spec.entries
        spec["b"] = BOUND
        spec["a"] = PAIR
        self.assertTrue(elder == Rules(["f", "g"], 9, [ANSWERS]))
        self.assertTrue(names == ("a",) and entries == (("a", ANSWERS),))

    def test_names(self):
        for name in NAMES:
            self.is_like(filled([(name, ANSWERS)]), [(name, ANSWERS)])
        for value in NO_NAMES:
            spec = filled([("a", ANSWERS)])
            with self.assertRaises(BadName) as caught:
                spec[value] = Answers("h", Places([(20, 20)]))
            self.assertIs(caught.exception.name, value)
            self.is_like(spec, [("a", ANSWERS)])

    def test_clauses_that_do_not_fit(self):
        wide = Places([(3, 5), (8, 12), (20, 21)])
        full = [(f"a{at}", ANSWERS) for at in range(12)]
        for entries in ([], [("a", ANSWERS)], full):
            spec = filled(entries)
            for name in ("a", "new"):
                for error, value, clause in ((NoFunction, "h", Pair("f", wide, "=", "h", 0, 0)), (NoFunction, "k", Needs("k", wide, "h")),
                                             (NoPlace, 10, Step("g", wide, "=", 0)), (NoPlace, 20, Refuses("f", Places([(20, 21)])))):
                    with self.assertRaises(error) as caught:
                        spec[name] = clause
                    self.assertEqual(next(iter(vars(caught.exception).values())), value)
            self.is_like(spec, entries)

    def test_twelve_at_most(self):
        full = [(f"a{at}", ANSWERS) for at in range(12)]
        spec = filled(full)
        with self.assertRaises(TooMany) as caught:
            spec["b"] = BOUND
        self.assertEqual(caught.exception.count, 13)
        self.is_like(spec, full)
        spec["a3"] = BOUND
        full[3] = ("a3", BOUND)
        self.is_like(spec, full)
        spec.drop("a0")
        spec["b"] = PAIR
        self.is_like(spec, full[1:] + [("b", PAIR)])

    def test_drop(self):
        entries = [("a", ANSWERS), ("b", BOUND), ("c", PAIR)]
        for at in range(3):
            spec = filled(entries)
            self.assertIsNone(spec.drop(entries[at][0]))
            self.is_like(spec, entries[:at] + entries[at + 1:])
        spec["b"] = ANSWERS
        spec.drop("a")
        spec["a"] = ANSWERS
        self.is_like(spec, [("b", ANSWERS), ("a", ANSWERS)])

    def test_unknown_names(self):
        for spec in (filled([]), filled([("a", ANSWERS), ("b1", BOUND)])):
            before = look(spec)
            for value in ("c", "b", "A", "", None, 0, 1, -1, True, False):
                self.refused(Unknown, value, lambda: spec[value])
                self.refused(Unknown, value, lambda: spec.drop(value))
            self.assertEqual(look(spec), before)

    def test_names_that_are_there_and_that_are_not(self):
        full = [(f"a{at}", Bound("f", EVERY, "<=", 0, at)) for at in range(12)]
        for many in (1, 2, 5, 12):
            entries = full[:many]
            for at, (name, clause) in enumerate(entries):
                spec = filled(entries)
                # A string that is equal, yet made anew, is the same name.
                again = "".join(list(name))
                self.assertTrue(spec[again] == clause)
                self.is_like(spec.selected([again]), [entries[at]])
                spec.drop(again)
                rest = entries[:at] + entries[at + 1:]
                self.is_like(spec, rest)
                for value in (again, "a", "a12", "b", name + "x", "", None, 0, at, True):
                    self.refused(Unknown, value, lambda: spec[value])
                    self.refused(Unknown, value, lambda: spec.drop(value))
                    self.refused(Unknown, value, lambda: spec.selected([*spec.names, value, "z"]))
                self.is_like(spec, rest)

    def test_not_iterated_over(self):
        for spec in (filled([]), filled([("a", ANSWERS), ("b", BOUND)])):
            for action in (list, tuple, iter, sorted, lambda told: [each for each in told]):
                self.assertRaises(TypeError, action, spec)


class Others(Checks):
    def test_copy(self):
        spec = filled([("a", ANSWERS), ("b", BOUND)])
        other = spec.copy()
        self.is_like(other, [("a", ANSWERS), ("b", BOUND)])
        other["c"] = PAIR
        spec.drop("a")
        self.is_like(other, [("a", ANSWERS), ("b", BOUND), ("c", PAIR)])
        self.is_like(spec, [("b", BOUND)])

    def test_selected(self):
        entries = [("a", ANSWERS), ("b", BOUND), ("c", PAIR)]
        spec = filled(entries)
        for names, wanted in (([], []), (["c"], [2]), (["c", "a"], [0, 2]), (("b", "b", "a", "b"), [0, 1]), (["c", "b", "a"], [0, 1, 2])):
            self.is_like(spec.selected(names), [entries[at] for at in wanted])
        self.is_like(spec, entries)
        for names, value in ((["d"], "d"), (["a", "x", "y"], "x"), (["a", None, "y"], None), ([True], True), ([0], 0), (["a", ""], "")):
            self.refused(Unknown, value, lambda: spec.selected(names))
        spec.selected(["a"]).drop("a")
        self.is_like(spec, entries)

    def test_joined(self):
        one = filled([("a", ANSWERS), ("b", BOUND)])
        other = filled([("c", PAIR), ("b", Bound("g", Places([(2, 5)]), "<=", 2, 5)), ("d", ANSWERS)])
        self.is_like(one.joined(other), [("a", ANSWERS), ("b", BOUND), ("c", PAIR), ("d", ANSWERS)])
        self.is_like(other.joined(one), [*other.entries, ("a", ANSWERS)])
        self.is_like(one.joined(one), one.entries)
        self.is_like(one.joined(Spec(["f", "g"], 9)), one.entries)
        turned = filled([("a", ANSWERS)], ("g", "f")).joined(filled([("b", BOUND)], ("g", "f")))
        self.is_like(turned, [("a", ANSWERS), ("b", BOUND)], ("g", "f"))
        one.joined(other).drop("a")
        self.is_like(one, [("a", ANSWERS), ("b", BOUND)])

    def test_joined_errors(self):
        one = filled([(f"a{at}", ANSWERS) for at in range(8)])
        clash = [("a5", PAIR), ("a2", BOUND), ("a3", ANSWERS)]
        new = [(f"b{at}", ANSWERS) for at in range(5)]
        before = look(one)
        for functions, last in ((("f",), 9), (("f", "h"), 9), (("f", "g", "h"), 9), (("f", "g"), 8), (("g", "f"), 10), (("g", "f"), 9)):
            entries = [(name, ANSWERS) for name in ("a5", "b", "c")] if last > 8 else []
            self.assertRaises(OtherShape, one.joined, filled(entries, functions, last))
            self.assertRaises(OtherShape, filled(entries, functions, last).joined, one)
        self.refused(Known, "a5", lambda: one.joined(filled(new + clash)))
        self.refused(Known, "a2", lambda: one.joined(filled(new + clash[1:])))
        self.refused(TooMany, 13, lambda: one.joined(filled(new + clash[2:])))
        self.refused(TooMany, 20, lambda: one.joined(filled([(f"b{at}", ANSWERS) for at in range(12)])))
        self.assertEqual(len(one.joined(filled(new[:4] + clash[2:]))), 12)
        self.assertEqual(look(one), before)

    def test_functions_in_another_order_cannot_be_joined(self):
        known = [("a", ANSWERS)]
        others_of_it = [("a", BOUND)]
        full = [(f"b{at}", ANSWERS) for at in range(12)]
        orders = list(permutations(("f", "g", "h")))
        for functions, turned in permutations(orders, 2):
            for entries, others in (([], []), (known, known), (known, []), (known, others_of_it), (known, full)):
                one, other = filled(entries, functions), filled(others, turned)
                before = (look(one), look(other))
                self.assertRaises(OtherShape, one.joined, other)
                self.assertRaises(OtherShape, other.joined, one)
                self.assertEqual((look(one), look(other)), before)

    def test_turned(self):
        chance = chance_of(251)
        for _ in range(100):
            spec = some_spec(chance)
            before = look(spec)
            self.is_like(spec.negated(), [(name, clause.negated()) for name, clause in spec.entries])
            for factor in (1, 2, 7, BIG):
                self.is_like(spec.times(factor), [(name, clause.times(factor)) for name, clause in spec.entries])
            self.is_like(spec.mirrored(), [(name, clause.mirrored(9)) for name, clause in spec.entries])
            self.is_like(spec.mirrored().mirrored(), spec.entries)
            other = spec.negated()
            other["new"] = ANSWERS
            self.assertEqual(look(spec), before)

    def test_factors(self):
        for spec in (filled([]), filled([("a", BOUND)])):
            for value in (0, -1, None, True, False, "2"):
                self.refused(BadFactor, value, lambda: spec.times(value))


class Stop(Exception):
    """An error of the caller's own."""


class Actions(Checks):
    ENTRIES = [("a", ANSWERS), ("b", BOUND), ("c", PAIR)]

    def change(self, spec):
        spec["d"] = Spreads("f", EVERY, "up")
        spec["a"] = BOUND
        spec.drop("b")
        spec["b"] = ANSWERS
        return "done"

    CHANGED = [("a", BOUND), ("c", PAIR), ("d", Spreads("f", EVERY, "up")), ("b", ANSWERS)]

    def fail_with(self, error):
        def action(spec):
            self.change(spec)
            raise error
        return action

    def test_what_is_called_and_returned(self):
        spec = filled(self.ENTRIES)
        for way in (spec.trial, spec.attempt):
            found = []
            for value in (None, 7, "text", (1, 2), spec, found):
                self.assertIs(way(lambda given: found.append(given) or value), value)
            self.assertTrue(len(found) == 6 and all(each is spec for each in found))
        self.is_like(spec, self.ENTRIES)

    def test_a_trial_is_taken_back(self):
        spec = filled(self.ENTRIES)
        seen = []
        told = spec.trial(lambda given: (self.change(given), seen.append(given.entries)))
        self.assertEqual(told[0], "done")
        self.assertTrue(seen[0] == tuple(self.CHANGED))
        self.is_like(spec, self.ENTRIES)

    def test_an_attempt_stays(self):
        spec = filled(self.ENTRIES)
        self.assertEqual(spec.attempt(self.change), "done")
        self.is_like(spec, self.CHANGED)

    def test_errors(self):
        for error in (Impossible(), Unknown("q"), Stop(), KeyError("a"), ValueError(), KeyboardInterrupt(), SystemExit(3)):
            spec = filled(self.ENTRIES)
            for way in (spec.trial, spec.attempt):
                with self.assertRaises(type(error)) as caught:
                    way(self.fail_with(error))
                self.assertIs(caught.exception, error)
                self.is_like(spec, self.ENTRIES)

    def test_errors_of_the_calls_inside(self):
        spec = filled(self.ENTRIES)
        for way in (spec.trial, spec.attempt):
            self.refused(Unknown, "q", lambda: way(lambda given: (self.change(given), given.drop("q"))))
            self.is_like(spec, self.ENTRIES)

    def test_an_error_that_the_action_itself_catches(self):
        spec = filled(self.ENTRIES)

        def action(given):
            given["d"] = ANSWERS
            for inner in (given.trial, given.attempt):
                try:
                    inner(self.fail_with(Stop()))
                except Stop:
                    pass
            given.drop("c")
            return len(given)

        self.assertEqual(spec.attempt(action), 3)
        self.is_like(spec, [("a", ANSWERS), ("b", BOUND), ("d", ANSWERS)])

    def test_nested(self):
        chance = chance_of(252)
        found = {"kept": 0, "restored": 0}
        for _ in range(400):
            spec = some_spec(chance)
            plain = list(spec.entries)
            wanted, failed = self.nest(chance, spec, plain, 4)
            self.is_like(spec, wanted)
            found["restored" if failed or wanted == plain else "kept"] += 1
        self.assertGreater(min(found.values()), 50, found)

    def nest(self, chance, spec, plain, depth):
        """Runs trials and attempts inside each other; the entries that must be left, and whether an error came out."""
        way = chance.choice(("trial", "attempt"))
        raises = chance.random() < 0.3
        inside = []

        def action(given):
            self.assertIs(given, spec)
            now = list(plain)
            for _ in range(chance.randint(1, 3)):
                now = self.changed_once(chance, given, now)
                if depth > 1 and chance.random() < 0.7:
                    now = self.nest(chance, given, now, depth - 1)[0]
                    self.is_like(given, now)
            inside.append(now)
            if raises:
                raise chance.choice((Stop(), Unknown("q")))
            return now

        if raises:
            self.assertRaises((Stop, Unknown), getattr(spec, way), action)
            return plain, True
        self.assertIs(getattr(spec, way)(action), inside[0])
        return (plain if way == "trial" else inside[0]), False

    def changed_once(self, chance, spec, entries):
        """Changes a specification in one way; the entries that it must have then."""
        clause = some_clause(chance, ("f", "g"), 9)
        name = chance.choice("abcdefgh")
        known = [each for each, _ in entries]
        if name not in known:
            spec[name] = clause
            return entries + [(name, clause)]
        if chance.random() < 0.5:
            spec.drop(name)
            return [entry for entry in entries if entry[0] != name]
        spec[name] = clause
        return [(each, clause if each == name else held) for each, held in entries]


if __name__ == "__main__":
    unittest.main()
