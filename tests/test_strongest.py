"""Point 19: strongest numbers, and the same clause with another number."""

import unittest

from openranges.claims import asks, holds
from openranges.clauses import Answers, Bound, Needs, Pair, Refuses, Spreads, Step
from openranges.errors import BadKind, Impossible, NoFunction, NoPlace
from openranges.ladders import can_answer
from openranges.places import Places
from openranges.programs import mined
from openranges.rules import Rules
from openranges.strongest import strongest, with_number
from tests import oracle, turned
from tests.large import some_stretches, with_bounds
from tests.plain import chance_of, some_clause, speaks_of
from tests.refusing import Refusing
from tests.test_clauses import all_made
from tests.test_ranges import BROKEN, RULES, crossing_worlds, possible_worlds, with_ends
from tests.test_ranges_large import cases
from tests.values import BIG, FAR

EVERY = Places([(0, 9)])
NUMBERS = ("bound", "pair", "step")


def shapes(chance, rules, many):
    """Shapes of all kinds and signs, with any height."""
    for _ in range(many):
        clause = some_clause(chance, rules.functions, rules.last, NUMBERS)
        yield turned.with_sign(clause, chance.choice(("<=", ">=")))


def large_shape(chance, rules):
    f, *others = chance.sample(list(rules.functions), len(rules.functions))
    places = some_stretches(chance, [0, rules.last, *[chance.randint(0, rules.last) for _ in range(4)]])
    if chance.random() < 0.6:
        clause = chance.choice(rules.told)
        f, places = clause.function, clause.places
        others = [word for word in rules.functions if word != f]
    sign, slope = chance.choice(("<=", ">=")), chance.randint(-3, 3)
    made = [Bound(f, places, sign, slope, 5), Step(f, places, sign, 5)]
    return chance.choice(made + ([Pair(f, places, sign, others[0], slope, 5)] if others else []))


def stronger(shape, height, by):
    """The height that is stronger by an integer."""
    return height - by if shape.sign == "<=" else height + by


def met_at(rules, shape, height, x):
    """Whether some let program meets the clause with this height exactly at x."""
    f, here = shape.function, Places([(x, x)])
    calls = {"bound": [(f, x)], "step": [(f, x), (f, x + 1)], "pair": [(f, x), (getattr(shape, "other", None), x)]}[shape.kind]
    if shape.kind == "step":
        here = Places([(x, x + 1)])
    exact = turned.with_places(turned.with_sign(with_number(shape, height), "="), here)
    return can_answer(Rules(rules.functions, rules.last, [*rules.told, exact]), calls)


class Examples(unittest.TestCase):
    def test_the_example_of_the_document(self):
        self.assertEqual(strongest(RULES, Bound("f", Places([(2, 5)]), "<=", 0, 0)), ("number", 15, 5))
        self.assertEqual(strongest(RULES, Bound("f", Places([(2, 5)]), "<=", 1, 0)), ("number", 10, 5))
        self.assertEqual(strongest(RULES, Pair("g", EVERY, ">=", "f", 0, 0)), ("none", None, 0))
        self.assertEqual(strongest(RULES, Bound("g", Places([(7, 8)]), "<=", 0, 0)), ("all", None, None))
        self.assertEqual(strongest(RULES, Step("f", EVERY, "<=", 0)), ("number", 15, 8))

    def test_no_places(self):
        for shape in (Bound("f", Places(), "<=", 0, 0), Pair("f", Places(), ">=", "g", 0, 0), Step("f", Places([(3, 3), (5, 5)]), "<=", 0)):
            self.assertEqual(strongest(RULES, shape), ("all", None, None))

    def test_the_least_of_many_places(self):
        every = Places([(0, FAR)])
        rules = Rules(["f"], FAR, [Answers("f", every), Bound("f", every, "=", 2, 1)])
        self.assertEqual(strongest(rules, Bound("f", every, "<=", 2, BIG)), ("number", 1, 0))
        self.assertEqual(strongest(rules, Bound("f", every, ">=", 1, 0)), ("number", 1, 0))
        self.assertEqual(strongest(rules, Bound("f", every, "<=", 1, 0)), ("number", FAR + 1, FAR))
        self.assertEqual(strongest(rules, Bound("f", Places([(7, 9), (3, 4)]), "<=", 2, 0)), ("number", 1, 3))
        self.assertEqual(strongest(rules, Step("f", Places([(10, 20)]), "<=", 0)), ("number", 2, 10))
        self.assertEqual(strongest(rules, Step("f", Places([(0, FAR)]), ">=", 0)), ("number", 2, 0))

    def test_a_top_in_the_middle(self):
        every = Places([(0, FAR)])
        for at in (10, 10 ** 15, FAR - 10):
            for up, down in ((1, 1), (3, 2), (2, 7)):
                told = [Answers("f", every), Bound("f", every, "<=", up, 0), Bound("f", every, "<=", -down, (up + down) * at)]
                rules = Rules(["f"], FAR, told)
                self.assertEqual(strongest(rules, Bound("f", every, "<=", 0, 0)), ("number", up * at, at))
                back = turned.negated(rules)
                self.assertEqual(strongest(back, Bound("f", every, ">=", 0, 0)), ("number", -up * at, at))
                flat = Rules(["f"], FAR, [*told, Bound("f", every, "<=", 0, up * at - 5)])
                # The first place at which up * x gets as far as the flat line, if it does at all ahead of the top.
                wanted = ("number", *strongest_by_hand(flat.told[1:], at - 10, at + 10))
                self.assertEqual(strongest(flat, Bound("f", every, "<=", 0, 0)), wanted)

    def test_places_that_are_refused_do_not_count(self):
        told = [Bound("f", EVERY, "<=", 1, 0), Refuses("f", Places([(0, 2), (5, 9)])), Bound("f", Places([(4, 4)]), ">=", 0, 5)]
        self.assertEqual(strongest(Rules(["f"], 9, told), Bound("f", EVERY, "<=", 0, 0)), ("number", 3, 3))
        self.assertEqual(strongest(Rules(["f"], 9, told), Step("f", EVERY, "<=", 0)), ("all", None, None))
        self.assertEqual(strongest(Rules(["f"], 9, told), Bound("f", EVERY, ">=", 0, 0)), ("none", None, 3))
        self.assertEqual(strongest(Rules(["f"], 9, told), Bound("f", Places([(5, 9)]), ">=", 0, 0)), ("all", None, None))


def strongest_by_hand(bounds, low, high):
    """The greatest least value of the lines of some bounds at the x from low to high, with the least such x."""
    values = [(min(bound.line()(x) for bound in bounds), -x) for x in range(low, high + 1)]
    most, x = max(values)
    return (most, -x)


class Plainly(unittest.TestCase):
    def test_small_worlds(self):
        found = {}
        for chance, rules, world in possible_worlds(231, 700):
            for shape in shapes(chance, rules, 6):
                told = strongest(rules, shape)
                self.assertEqual(told, world.strongest(shape), (shape.text(), rules.told))
                self.assertIs(type(told), tuple)
                key = (shape.kind, shape.sign, told[0])
                found[key] = found.get(key, 0) + 1
        self.assertEqual(len(found), 18)
        self.assertGreater(min(found.values()), 10, found)

    def test_lines_that_cross(self):
        found = {}
        for chance, rules, world in crossing_worlds(237, 200):
            for shape in shapes(chance, rules, 6):
                told = strongest(rules, shape)
                self.assertEqual(told, world.strongest(shape), (shape.text(), rules.told))
                found[told[0]] = found.get(told[0], 0) + 1
        self.assertGreater(found["number"], 300, found)

    def test_the_height_means_nothing(self):
        for chance, rules, _ in possible_worlds(232, 150):
            for shape in shapes(chance, rules, 3):
                told = strongest(rules, shape)
                for height in (0, 1, -BIG, BIG):
                    self.assertEqual(strongest(rules, with_number(shape, height)), told)

    def test_over_all_programs(self):
        chance = chance_of(233)
        seen = {}
        for functions, last, top, many in ((["f"], 4, 2, 50), (["f", "g"], 1, 2, 80), (["g", "f"], 2, 1, 30), (["f", "g", "h"], 0, 3, 40)):
            for _ in range(many):
                rules = oracle.bounded_rules(chance, functions, last, chance.randint(0, 5), top)
                let = oracle.all_let(rules, top)
                if not let:
                    continue
                for shape in shapes(chance, rules, 4):
                    wanted = strongest_over(let, shape)
                    self.assertEqual(strongest(rules, shape), wanted)
                    seen[wanted[0]] = seen.get(wanted[0], 0) + 1
        self.assertGreater(min(seen.values()), 50, seen)


def strongest_over(let, shape):
    """The strongest number over the outcomes of all let programs, whose answers are bound to few numbers."""
    found = []
    for outcomes in let:
        here = outcomes[shape.function]
        for x in speaks_of(shape):
            if shape.kind == "step":
                one, other, line = here[x + 1], here[x], 0
            else:
                other = 0 if shape.kind == "bound" else outcomes[shape.other][x]
                one, line = here[x], shape.slope * x
            if one is not None and other is not None:
                number = one - other - line
                found.append((-number if shape.sign == "<=" else number, x))
    if not found:
        return ("all", None, None)
    number, x = min(found)
    return ("number", -number if shape.sign == "<=" else number, x)


class ByThePromises(unittest.TestCase):
    def check(self, rules, shape, found):
        told, height, place = strongest(rules, shape)
        places = asks(rules, shape)
        found[told] = found.get(told, 0) + 1
        if told == "number":
            self.assertTrue(holds(rules, with_number(shape, height)) == places)
            fails = places - holds(rules, with_number(shape, stronger(shape, height, 1)))
            self.assertEqual(fails.least(), place)
            self.assertTrue(met_at(rules, shape, height, place))
            self.assertFalse(met_at(rules, shape, stronger(shape, height, -1), place))
        elif told == "none":
            for number in (0, BIG * BIG):
                fails = places - holds(rules, with_number(shape, stronger(shape, 0, -number)))
                self.assertIn(place, fails)
            self.assertEqual(fails.least(), place)
        else:
            self.assertEqual((height, place), (None, None))
            self.assertTrue(holds(rules, with_number(shape, stronger(shape, 0, BIG * BIG))) == places)

    def test_small_worlds(self):
        found = {}
        for chance, rules, _ in possible_worlds(234, 200):
            rules = with_ends(chance, rules)
            if can_answer(rules, []):
                for shape in shapes(chance, rules, 3):
                    self.check(rules, shape, found)
        self.assertGreater(min(found.values()), 40, found)

    def test_large_worlds(self):
        found = {}
        for chance, program, rules in cases(235, 80):
            rules = with_bounds(chance, program, rules, 0.6) if program.keeps(rules.told) else rules
            shape = large_shape(chance, rules)
            self.check(rules, shape, found)
            told, height, _ = strongest(rules, shape)
            if told == "number" and program.keeps(rules.told):
                self.assertTrue(program.keeps([with_number(shape, height)]))
                strong = mined([program], shape)
                self.assertTrue(strong is None or kept_by(strong, shape, height))
        self.assertGreater(min(found.values()), 5, found)

    def test_rules_turned(self):
        for chance, _, rules in cases(236, 30):
            shape = large_shape(chance, rules)
            told, height, place = strongest(rules, shape)
            opposite = None if height is None else -height
            self.assertEqual(strongest(turned.negated(rules), shape.negated()), (told, opposite, place))
            times = None if height is None else 7 * height
            self.assertEqual(strongest(turned.multiplied(rules, 7), shape.times(7)), (told, times, place))
            other = strongest(turned.told_otherwise(chance, rules), shape)
            self.assertEqual(other, (told, height, place))


def kept_by(strong, shape, height):
    """Whether a clause that was read off a program is at least as strong as the height that is told for all."""
    return strong.height <= height if shape.sign == "<=" else strong.height >= height


class WithNumber(Refusing):
    def test_all_kinds_and_signs(self):
        for kind, _, clause in all_made():
            if kind not in NUMBERS:
                self.assertRaises(BadKind, with_number, clause, 3)
                continue
            for height in (0, -1, 12, BIG, -BIG):
                told = with_number(clause, height)
                self.assertIs(type(told), type(clause))
                self.assertEqual(told.height, height)
                self.assertTrue(with_number(told, clause.height) == clause)


class Errors(Refusing):
    def test_kinds(self):
        wrong = [Answers("f", EVERY), Refuses("f", EVERY), Needs("f", EVERY, "g"), Spreads("f", EVERY, "up")]
        wrong += [Bound("f", EVERY, "=", 0, 0), Pair("f", EVERY, "=", "g", 0, 0), Step("f", EVERY, "=", 0)]
        # Ahead of all other errors.
        wrong += [Answers("h", Places([(0, 20)])), Bound("h", Places([(20, 20)]), "=", 0, 0)]
        for clause in wrong:
            for rules in (RULES, BROKEN):
                self.assertRaises(BadKind, strongest, rules, clause)

    def test_functions_and_places(self):
        wide = Places([(3, 5), (8, 12), (20, 21)])
        for rules in (RULES, BROKEN):
            self.refused(NoFunction, "h", lambda: strongest(rules, Bound("h", wide, "<=", 0, 0)))
            self.refused(NoFunction, "h", lambda: strongest(rules, Pair("f", wide, "<=", "h", 0, 0)))
            self.refused(NoFunction, "k", lambda: strongest(rules, Pair("k", wide, ">=", "h", 0, 0)))
            self.refused(NoFunction, "h", lambda: strongest(rules, Step("h", Places(), ">=", 0)))
            for shape in (Bound("f", wide, "<=", 0, 0), Pair("f", wide, "<=", "g", 0, 0), Step("g", wide, ">=", 0)):
                with self.assertRaises(NoPlace) as caught:
                    strongest(rules, shape)
                self.assertEqual(caught.exception.place, 10)

    def test_impossible(self):
        for shape in (Bound("f", EVERY, "<=", 0, 0), Pair("g", EVERY, ">=", "f", 0, 0), Step("f", Places(), "<=", 0)):
            self.assertRaises(Impossible, strongest, BROKEN, shape)


if __name__ == "__main__":
    unittest.main()
