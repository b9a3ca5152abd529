"""Point 23: specifications compared, and what of them could be left out."""

import unittest

from openranges.claims import asks, holds
from openranges.clauses import Answers, Bound, Needs, Pair, Refuses, Spreads, Step
from openranges.editions import irreducible, needless, parting, within
from openranges.errors import OtherShape, Unfair
from openranges.ladders import can_answer
from openranges.places import Places
from openranges.programs import Program
from openranges.rules import Rules
from openranges.specs import Spec
from tests import oracle
from tests.large import FUNCTIONS, free_clause, some_large
from tests.plain import broken, chance_of, kept_at, outcomes_of, some_clause, speaks_of
from tests.test_specs import look, some_spec
from tests.test_talks import spec_of
from tests.values import FAR

EVERY = Places([(0, 9)])


def some_two(chance, last=9, most=6):
    """Two specifications of one shape, with some clauses that both have."""
    functions = ["f", "g", "h"][:chance.randint(1, 3)]
    functions = chance.sample(functions, len(functions))
    one = some_spec(chance, functions, last, most)
    other = some_spec(chance, functions, last, chance.randint(0, most))
    for name, clause in one.entries:
        if chance.random() < 0.3:
            other[name] = clause
    return one, other


class OverAllPrograms(unittest.TestCase):
    def test_small_worlds(self):
        chance = chance_of(301)
        found = {True: 0, False: 0}
        for functions, last, top, many in ((["f"], 3, 2, 80), (["f", "g"], 1, 2, 80), (["g", "f"], 2, 1, 30), (["f", "g", "h"], 0, 3, 30)):
            for _ in range(many):
                one = spec_of(oracle.bounded_rules(chance, functions, last, chance.randint(0, 4), top))
                other = spec_of(oracle.some_rules(chance, functions, last, chance.randint(0, 3), most=2))
                let = oracle.all_let(one.rules, top)
                kept = [[clause.text() for clause in other.rules.told if broken(clause, outcomes)] for outcomes in let]
                wanted = not any(kept)
                self.assertIs(within(one, other), wanted)
                told = parting(one, other)
                self.assertEqual(told is None, wanted)
                found[wanted] += 1
                if told is None:
                    continue
                name, x, program = told
                failing = [each for each, clause in other.entries if any(broken(clause, outcomes) for outcomes in let)]
                self.assertEqual(name, failing[0])
                clause = other[name]
                self.assertEqual(x, min(place for outcomes in let for place in broken(clause, outcomes)))
                self.assertIn(outcomes_of(program), let)
                self.assertFalse(kept_at(clause, outcomes_of(program), x))
        self.assertGreater(min(found.values()), 50, found)


class ByThePromises(unittest.TestCase):
    def check(self, one, other):
        """Whether what is told of two specifications is right; it is returned."""
        told = parting(one, other)
        self.assertIs(within(one, other), told is None)
        fails = [(name, asks(one.rules, clause) - holds(one.rules, clause)) for name, clause in other.entries]
        fails = [(name, places.least()) for name, places in fails if bool(places)]
        if told is None:
            self.assertEqual(fails, [])
            return None
        self.assertIs(type(told), tuple)
        name, x, program = told
        self.assertEqual((name, x), fails[0])
        self.assertIs(type(program), Program)
        self.assertTrue(program.keeps(one.rules.told))
        self.assertIn(x, program.breaches(other[name]))
        return told

    def test_small_worlds(self):
        chance = chance_of(302)
        found = {True: 0, False: 0}
        for _ in range(400):
            found[self.check(*some_two(chance)) is None] += 1
        self.assertGreater(min(found.values()), 40, found)

    def test_large_worlds(self):
        chance = chance_of(303)
        found = {True: 0, False: 0}
        for _ in range(60):
            program, rules = some_large(chance, chance.choice((4, 10)), FUNCTIONS[:chance.randint(1, 3)])
            one = spec_of(rules)
            other = one.selected(chance.sample(one.names, chance.randint(0, len(one))))
            self.assertTrue(within(one, other))
            if len(other) < 12 and chance.random() < 0.7:
                other["more"] = free_clause(chance, rules)
            told = self.check(one, other)
            self.assertTrue(told is None or told[0] == "more")
            found[told is None] += 1
        self.assertGreater(min(found.values()), 10, found)

    def test_within_itself_and_without_a_let_program(self):
        chance = chance_of(304)
        many = 0
        for _ in range(200):
            one, other = some_two(chance)
            self.assertTrue(within(one, one.copy()) and within(one, Spec(one.rules.functions, 9)))
            if not can_answer(one.rules, []):
                self.assertTrue(within(one, other))
                self.assertIsNone(parting(one, other))
                many += 1
        self.assertGreater(many, 10)

    def test_equal_calls_return_equal_results(self):
        chance = chance_of(305)
        for _ in range(60):
            one, other = some_two(chance)
            before = (look(one), look(other))
            self.assertTrue(parting(one, other) == parting(one.copy(), other.copy()))
            self.assertEqual((look(one), look(other)), before)

    def test_other_shapes(self):
        one = Spec(["f", "g"], 9)
        one["a"] = Answers("f", EVERY)
        for functions, last in ((["f"], 9), (["f", "g", "h"], 9), (["f", "h"], 9), (["f", "g"], 8), (["g", "f"], 10), (["g", "f"], 9)):
            for action in (within, parting):
                self.assertRaises(OtherShape, action, one, Spec(functions, last))
                self.assertRaises(OtherShape, action, Spec(functions, last), one)
        self.assertTrue(within(one, Spec(["f", "g"], 9)))
        self.assertEqual(parting(Spec(["f", "g"], 9), one)[:2], ("a", 0))

    def test_functions_in_another_order_are_another_shape(self):
        chance = chance_of(308)
        many = 0
        for _ in range(150):
            one, other = some_two(chance)
            functions = one.rules.functions
            order = chance.sample(functions, len(functions))
            turned = Spec(order, 9)
            for name, clause in other.entries:
                turned[name] = clause
            before = (look(one), look(turned))
            for action in (within, parting):
                if tuple(order) == functions:
                    self.assertTrue(action(one, turned) == action(one, other))
                    continue
                many += 1
                self.assertRaises(OtherShape, action, one, turned)
                self.assertRaises(OtherShape, action, turned, one)
            self.assertEqual((look(one), look(turned)), before)
        self.assertGreater(many, 50)

    def test_written_out(self):
        one = Spec(["f"], FAR)
        one["a"] = Bound("f", Places([(0, FAR)]), "<=", 1, 0)
        other = Spec(["f"], FAR)
        other["z"] = Bound("f", Places([(0, FAR)]), "<=", 2, 0)
        other["b"] = Bound("f", Places([(0, FAR)]), "<=", 0, 10 ** 20)
        other["a"] = Refuses("f", Places([(5, 5)]))
        name, x, program = parting(one, other)
        self.assertEqual((name, x), ("b", 10 ** 20 + 1))
        self.assertEqual(program("f", x), x)
        other.drop("b")
        self.assertEqual(parting(one, other)[:2], ("a", 5))
        other.drop("a")
        self.assertTrue(within(one, other))


class Needless(unittest.TestCase):
    def test_against_claims(self):
        chance = chance_of(306)
        found = {True: 0, False: 0}
        for _ in range(300):
            spec = some_spec(chance, ["f", "g", "h"][:chance.randint(1, 3)], 9, 8)
            before = look(spec)
            wanted = []
            for name, clause in spec.entries:
                rest = Rules(spec.rules.functions, 9, [held for other, held in spec.entries if other != name])
                if holds(rest, clause) == asks(rest, clause):
                    wanted.append(name)
                world = oracle.World(rest)
                self.assertEqual(all(world.kept(clause, x) for x in speaks_of(clause)), name in wanted)
                found[name in wanted] += 1
            self.assertEqual(needless(spec), tuple(wanted))
            self.assertEqual(look(spec), before)
        self.assertGreater(min(found.values()), 100, found)

    def test_written_out(self):
        spec = Spec(["f", "g"], FAR)
        every = Places([(0, FAR)])
        self.assertEqual(needless(spec), ())
        spec["wide"] = Bound("f", every, "<=", 0, 9)
        self.assertEqual(needless(spec), ())
        spec["close"] = Bound("f", every, "<=", 0, 8)
        self.assertEqual(needless(spec), ("wide",))
        spec["again"] = Bound("f", every, "<=", 0, 8)
        # Each of the two that are equal holds by the other one.
        self.assertEqual(needless(spec), ("wide", "close", "again"))
        spec["none"] = Pair("f", Places(), "=", "g", 1, 1)
        spec["one"] = Spreads("g", Places([(7, 7)]), "up")
        self.assertEqual(needless(spec), ("wide", "close", "again", "none", "one"))
        spec["need"] = Needs("f", every, "g")
        self.assertEqual(needless(spec), ("wide", "close", "again", "none", "one"))


class Irreducible(unittest.TestCase):
    def plainly(self, spec, is_enough):
        """The walk of point 23, as it is told."""
        left = list(spec.names)
        for name in reversed(spec.names):
            fewer = [other for other in left if other != name]
            if is_enough(spec.selected(fewer)):
                left = fewer
        return tuple(left)

    def some_enough(self, chance, spec):
        """Functions that stay true when clauses are added, of several kinds."""
        names = spec.names
        wanted = {name for name in names if chance.random() < 0.3}
        many = chance.randint(0, len(names))
        clause = some_clause(chance, spec.rules.functions, spec.rules.last)
        return [
            lambda given: wanted <= set(given.names),
            lambda given: len(given) >= many,
            lambda given: any({one, other} <= set(given.names) for one, other in zip(names, names[1:])) or len(names) < 2,
            lambda given: holds(given.rules, clause) == holds(spec.rules, clause),
            lambda given: not can_answer(given.rules, []) or can_answer(spec.rules, []),
            lambda given: within(given, spec),
            lambda given: True,
        ]

    def test_the_plain_walk(self):
        chance = chance_of(307)
        sizes = {}
        for _ in range(120):
            spec = some_spec(chance, ["f", "g"], 9, 7)
            before = look(spec)
            for is_enough in self.some_enough(chance, spec):
                told = irreducible(spec, is_enough)
                self.assertIs(type(told), tuple)
                self.assertEqual(told, self.plainly(spec, is_enough))
                self.assertTrue(is_enough(spec.selected(told)))
                for name in told:
                    self.assertFalse(is_enough(spec.selected([other for other in told if other != name])))
                sizes[len(told)] = sizes.get(len(told), 0) + 1
            self.assertEqual(look(spec), before)
        self.assertGreater(len(sizes), 5)

    def test_from_the_last_name_to_the_first(self):
        spec = Spec(["f"], 9)
        for name in ("c", "a", "b"):
            spec[name] = Answers("f", EVERY)
        self.assertEqual(irreducible(spec, lambda given: len(given) >= 1), ("c",))
        self.assertEqual(irreducible(spec, lambda given: "b" in given.names or len(given) == 2), ("c", "a"))
        self.assertEqual(irreducible(spec, lambda given: len(given) >= 3), ("c", "a", "b"))
        self.assertEqual(irreducible(spec, lambda given: True), ())

    def test_unfair(self):
        for many in (0, 3):
            spec = Spec(["f"], 9)
            for at in range(many):
                spec[f"a{at}"] = Answers("f", EVERY)
            self.assertRaises(Unfair, irreducible, spec, lambda given: False)
            self.assertRaises(Unfair, irreducible, spec, lambda given: len(given) > many)
            self.assertEqual(irreducible(spec, lambda given: len(given) >= many), spec.names)

    def test_what_the_function_is_given(self):
        spec = Spec(["g", "f"], 7)
        for at in range(5):
            spec[f"a{at}"] = Refuses("fg"[at % 2], Places([(at, at)]))
        given = []

        def is_enough(told):
            self.assertIs(type(told), Spec)
            self.assertEqual((told.rules.functions, told.rules.last), (("g", "f"), 7))
            self.assertTrue(told.entries == spec.selected(told.names).entries)
            given.append(told)
            return {"a1", "a3"} <= set(told.names)

        self.assertEqual(irreducible(spec, is_enough), ("a1", "a3"))
        self.assertEqual(len(spec), 5)
        for told in given:
            self.assertIsNot(told, spec)

    def test_an_error_of_the_function(self):
        spec = Spec(["f"], 9)
        spec["a"] = Step("f", EVERY, "=", 1)
        with self.assertRaises(ZeroDivisionError):
            irreducible(spec, lambda given: 1 // len(given) > 0)
        self.assertEqual(spec.names, ("a",))


if __name__ == "__main__":
    unittest.main()
