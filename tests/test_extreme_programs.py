"""Point 18: the let programs with the least and the greatest answers."""

import unittest

from openranges.clauses import Answers, Bound, Needs, Pair, Refuses, Spreads, Step
from openranges.errors import Impossible, NoBound
from openranges.lines import Line
from openranges.places import Places
from openranges.programs import Program
from openranges.ranges import greatest_program, least_program, range_at, status
from openranges.rules import Rules
from tests import turned
from tests.large import some_large, with_bounds
from tests.plain import broken, chance_of, outcomes_of
from tests.test_ranges import calls_of, possible_worlds, with_ends
from tests.values import BIG, FAR

BOTH = ((least_program, 0), (greatest_program, 1))


class Plainly(unittest.TestCase):
    def test_small_worlds(self):
        found = {"program": 0, "no bound": 0}
        for chance, rules, _ in possible_worlds(211, 400):
            rules = with_ends(chance, rules)
            try:
                status(rules, rules.functions[0], 0)
            except Impossible:
                continue
            sure = [(f, x) for f, x in calls_of(rules) if status(rules, f, x) == "answers"]
            for action, end in BOTH:
                endless = [(x, rules.functions.index(f)) for f, x in sure if range_at(rules, f, x)[end] is None]
                if endless:
                    with self.assertRaises(NoBound) as caught:
                        action(rules)
                    x, at = min(endless)
                    self.assertEqual((caught.exception.function, caught.exception.place), (rules.functions[at], x))
                    found["no bound"] += 1
                    continue
                program = action(rules)
                self.assertIs(type(program), Program)
                self.assertEqual((program.last, program.functions), (rules.last, tuple(sorted(rules.functions))))
                outcomes = outcomes_of(program)
                for f, x in calls_of(rules):
                    self.assertEqual(outcomes[f][x], range_at(rules, f, x)[end] if (f, x) in sure else None, (f, x, rules.told))
                self.assertEqual([clause.text() for clause in rules.told if broken(clause, outcomes)], [])
                found["program"] += bool(sure)
        self.assertGreater(min(found.values()), 15, found)

    def test_negated_rules_exchange_them(self):
        for chance, rules, _ in possible_worlds(212, 150):
            try:
                least = least_program(rules)
            except NoBound as error:
                with self.assertRaises(NoBound) as caught:
                    greatest_program(turned.negated(rules))
                self.assertEqual(vars(caught.exception), vars(error))
                continue
            self.assertTrue(greatest_program(turned.negated(rules)) == least.negated())

    def test_mirrored_rules(self):
        for chance, rules, _ in possible_worlds(213, 150):
            rules = with_ends(chance, rules)
            try:
                program = greatest_program(rules)
            except (NoBound, Impossible) as error:
                self.assertRaises(type(error), greatest_program, turned.mirrored(rules))
                continue
            self.assertTrue(greatest_program(turned.mirrored(rules)) == program.mirrored())


class NoBounds(unittest.TestCase):
    def first_without(self, rules, action):
        with self.assertRaises(NoBound) as caught:
            action(rules)
        return (caught.exception.function, caught.exception.place)

    def test_by_place_and_then_by_the_order_of_the_functions(self):
        told = [Answers("f", Places([(4, 9)])), Answers("g", Places([(4, 9)])), Answers("h", Places([(6, 9)]))]
        told += [Bound("f", Places([(0, 5)]), "<=", 0, 7), Bound("g", Places([(0, 7)]), "<=", 0, 7)]
        for functions in (["f", "g", "h"], ["h", "g", "f"], ["g", "h", "f"]):
            rules = Rules(functions, 9, told)
            self.assertEqual(self.first_without(rules, greatest_program), ([f for f in functions if f != "g"][0], 6))
            self.assertEqual(self.first_without(rules, least_program), ([f for f in functions if f != "h"][0], 4))

    def test_open_calls_do_not_count(self):
        told = [Answers("f", Places([(4, FAR)])), Bound("f", Places([(4, FAR)]), "<=", 3, -BIG), Bound("g", Places([(0, 3)]), ">=", 0, 1)]
        rules = Rules(["f", "g"], FAR, told)
        program = greatest_program(rules)
        self.assertEqual(program.pieces("f"), [(0, 3, None), (4, FAR, Line(3, -BIG))])
        self.assertEqual(program.pieces("g"), [(0, FAR, None)])
        self.assertEqual(self.first_without(rules, least_program), ("f", 4))

    def test_very_large_numbers_are_bounds(self):
        every = Places([(0, FAR)])
        for number in (BIG, -BIG, BIG * BIG):
            rules = Rules(["f"], FAR, [Answers("f", every), Bound("f", every, "=", number, number)])
            for action, _ in BOTH:
                self.assertEqual(action(rules).pieces("f"), [(0, FAR, Line(number, number))])

    def test_a_bound_by_way_of_a_function_that_is_refused_elsewhere(self):
        told = [Answers("f", Places([(2, 5)])), Needs("g", Places([(5, 5)]), "f"), Pair("f", Places([(0, 9)]), "<=", "g", 0, 2),
                Bound("g", Places([(0, 9)]), "<=", 1, 0), Step("f", Places([(0, 9)]), ">=", 1), Refuses("g", Places([(0, 4)]))]
        program = greatest_program(Rules(["g", "f"], 9, told))
        self.assertEqual(program.pieces("f"), [(0, 1, None), (2, 5, Line(1, 2)), (6, 9, None)])
        self.assertEqual(program("g", 5), 5)

    def test_impossible_ahead_of_no_bound(self):
        rules = Rules(["f", "g"], 9, [Answers("f", Places([(0, 9)])), Answers("g", Places([(9, 9)])), Refuses("g", Places([(9, 9)]))])
        for action, _ in BOTH:
            self.assertRaises(Impossible, action, rules)


class Large(unittest.TestCase):
    def test_at_the_ends_of_clauses_and_beside_them(self):
        chance = chance_of(214)
        found = {"program": 0, "no bound": 0}
        for _ in range(60):
            program, rules = some_large(chance, chance.choice((5, 12, 40)), "fgh"[:chance.randint(1, 3)])
            rules = with_bounds(chance, program, rules, 0.8)
            for action, end in BOTH:
                try:
                    told = action(rules)
                except NoBound as error:
                    self.assertEqual(status(rules, error.function, error.place), "answers")
                    self.assertIsNone(range_at(rules, error.function, error.place)[end])
                    found["no bound"] += 1
                    continue
                found["program"] += 1
                self.assertTrue(told.keeps(rules.told))
                for f in rules.functions:
                    for first, last, _ in told.pieces(f)[:8]:
                        for x in {first, last, (first + last) // 2}:
                            sure = status(rules, f, x) == "answers"
                            self.assertEqual(told(f, x), range_at(rules, f, x)[end] if sure else None)
        self.assertGreater(min(found.values()), 10, found)

    def test_spreads_to_the_last_place(self):
        every = Places([(0, FAR)])
        told = [Answers("f", Places([(7, 7)])), Spreads("f", every, "up"), Step("f", every, "<=", 3), Step("f", every, ">=", -2)]
        rules = Rules(["f"], FAR, told + [Bound("f", Places([(10, 10)]), "=", 0, 100)])
        wanted = [(0, 6, None), (7, 10, Line(-2, 120)), (11, FAR, Line(3, 70))]
        pieces = greatest_program(rules).pieces("f")
        self.assertTrue(Program(FAR, {"f": pieces}) == Program(FAR, {"f": wanted}))
        wanted = [(0, 6, None), (7, 10, Line(3, 70)), (11, FAR, Line(-2, 120))]
        self.assertTrue(least_program(rules) == Program(FAR, {"f": wanted}))


if __name__ == "__main__":
    unittest.main()
