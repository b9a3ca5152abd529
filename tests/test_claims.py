"""Point 17: where claims hold, programs against them, and what shows that no program is let."""

import unittest

from openranges.chains import rows_hold
from openranges.claims import against, asks, derivation, holds, impossible, is_derivation
from openranges.clauses import Answers, Bound, Needs, Pair, Refuses, Spreads, Step
from openranges.errors import NoFunction, NoPlace
from openranges.ladders import can_answer, ring
from openranges.lines import Line
from openranges.musts import grounds
from openranges.places import Places
from openranges.rules import Rules
from tests import oracle
from tests.plain import broken, chance_of, kept_at, members, outcomes_of, places_of, some_clause, speaks_of
from tests.values import BIG, FAR

KINDS = ("answers", "refuses", "needs", "spreads", "bound", "pair", "step")
EVERY = Places([(0, 10)])


def small_worlds(seed, many, low=0, high=11, most=9):
    chance = chance_of(seed)
    for _ in range(many):
        functions = ["f", "g", "h"][:chance.randint(1, 3)]
        last = chance.randint(low, high)
        yield chance, oracle.some_rules(chance, functions, last, chance.randint(0, most))


class Asks(unittest.TestCase):
    def test_each_kind(self):
        for chance, rules in small_worlds(71, 300):
            claim = some_clause(chance, rules.functions, rules.last)
            self.assertEqual(members(asks(rules, claim)), speaks_of(claim))

    def test_errors(self):
        rules = Rules(["f", "g"], 9, [])
        wide = Places([(3, 5), (8, 12), (20, 21)])
        wrong = [(NoFunction, "h", Answers("h", wide)), (NoFunction, "h", Pair("h", wide, "=", "k", 0, 0))]
        wrong += [(NoFunction, "h", Needs("f", wide, "h")), (NoFunction, "k", Step("k", Places(), "=", 0))]
        wrong += [(NoPlace, 10, Refuses("f", wide)), (NoPlace, 20, Bound("f", Places([(20, 21)]), "=", 0, 0))]
        wrong += [(NoPlace, FAR, Spreads("f", Places([(0, 3), (FAR, FAR)]), "up")), (NoPlace, 12, Step("g", Places([(12, 12)]), "=", 0))]
        impossible_rules = Rules(["f", "g"], 9, [Answers("f", EVERY & Places([(0, 9)])), Refuses("f", Places([(3, 3)]))])
        for error, value, claim in wrong:
            for told in (rules, impossible_rules):
                for action in (asks, holds, against, derivation, lambda *both: is_derivation(*both, Places(), None)):
                    with self.assertRaises(error) as caught:
                        action(told, claim)
                    self.assertEqual(next(iter(vars(caught.exception).values())), value)


class Plainly(unittest.TestCase):
    def test_each_kind_over_all_places(self):
        found = {}
        for low, high, most, many in ((0, 11, 9, 900), (12, 24, 5, 150)):
            for chance, rules in small_worlds(72 + low, many, low, high, most):
                world = oracle.World(rules)
                for _ in range(5):
                    claim = some_clause(chance, rules.functions, rules.last, most=6)
                    wanted = world.holds(claim)
                    self.assertEqual(members(holds(rules, claim)), wanted, (claim.text(), rules.told))
                    key = (claim.kind, bool(wanted), wanted == speaks_of(claim), world.can_answer([]))
                    found[key] = found.get(key, 0) + 1
        for kind in KINDS:
            self.assertGreater(found.get((kind, True, False, True), 0), 10, kind)
            self.assertGreater(found.get((kind, False, False, True), 0), 10, kind)
            self.assertGreater(found.get((kind, True, True, False), 0), 3, kind)

    def test_against(self):
        found = {}
        for low, high, most, many in ((0, 11, 8, 900), (12, 24, 5, 150)):
            for chance, rules in small_worlds(73 + low, many, low, high, most):
                world = oracle.World(rules)
                for _ in range(4):
                    claim = some_clause(chance, rules.functions, rules.last, most=6)
                    wanted = [x for x in speaks_of(claim) if not world.kept(claim, x)]
                    told = against(rules, claim)
                    if not wanted:
                        self.assertIsNone(told)
                        continue
                    self.assertIs(type(told), tuple)
                    self.assertEqual(told[0], wanted[0])
                    outcomes = outcomes_of(told[1])
                    self.assertEqual(sorted(outcomes), sorted(rules.functions))
                    self.assertEqual(told[1].last, rules.last)
                    self.assertFalse(kept_at(claim, outcomes, told[0]))
                    self.assertEqual([clause.text() for clause in rules.told if broken(clause, outcomes)], [])
                    found[claim.kind] = found.get(claim.kind, 0) + 1
        self.assertTrue(min(found[kind] for kind in KINDS) > 50, found)

    def test_over_all_programs(self):
        chance = chance_of(74)
        held = [0, 0]
        for functions, last, top, many in ((["f"], 3, 2, 150), (["f", "g"], 1, 1, 150), (["f"], 2, 3, 60), (["f", "g"], 2, 1, 30)):
            for _ in range(many):
                rules = oracle.bounded_rules(chance, functions, last, chance.randint(0, 5), top)
                let = oracle.all_let(rules, top)
                self.assertEqual(impossible(rules) is None, bool(let))
                self.assertIs(can_answer(rules, []), bool(let))
                for _ in range(8):
                    claim = some_clause(chance, functions, last, most=2)
                    wanted = [x for x in speaks_of(claim) if all(kept_at(claim, outcomes, x) for outcomes in let)]
                    self.assertEqual(members(holds(rules, claim)), wanted, (claim.text(), rules.told))
                    held[bool(wanted)] += 1
        self.assertTrue(min(held) > 500, held)

    def test_the_sign_that_is_equal(self):
        for chance, rules in small_worlds(75, 300):
            places = Places([(0, rules.last)])
            slope, height = chance.randint(-2, 2), chance.randint(-4, 4)
            told = [holds(rules, Bound("f", places, sign, slope, height)) for sign in ("<=", ">=", "=")]
            self.assertTrue(told[0] & told[1] == told[2])
            told = [holds(rules, Step("f", places, sign, height)) for sign in ("<=", ">=", "=")]
            self.assertTrue(told[0] & told[1] == told[2])


class Impossible(unittest.TestCase):
    def test_none_exactly_if_some_program_is_let(self):
        found = {"bar": 0, "ring": 0}
        for _, rules in small_worlds(76, 1500):
            told = impossible(rules)
            self.assertEqual(told is None, oracle.World(rules).can_answer([]))
            if told is None:
                continue
            rows, end = told
            self.assertEqual((type(told), type(rows), type(end), len(end)), (tuple, tuple, tuple, 2))
            self.assertEqual(oracle.first_wrong(rules, rows, []), -1)
            self.assertEqual(rows_hold(rules, rows, [], 0, FAR), -1)
            found[end[0]] += 1
            if end[0] == "bar":
                clause = rules.told[end[1]]
                f, first, last, _ = rows[-1]
                self.assertEqual((clause.kind, clause.function, first), ("refuses", f, last))
                self.assertIn(first, clause.places)
            else:
                known = oracle.hops(rules)
                have = {(row[0], x) for row in rows for x in range(row[1], row[2] + 1)}
                start = oracle.call(end[1][0][1], end[1][0][2])
                self.assertTrue(oracle.chained(rules, end[1], start, start, have, known))
                self.assertLess(sum(known[hop] for hop in end[1]), 0)
        self.assertTrue(min(found.values()) > 10, found)

    def test_every_claim_holds_then(self):
        for chance, rules in small_worlds(77, 600):
            told = impossible(rules)
            if told is None:
                continue
            claim = some_clause(chance, rules.functions, rules.last)
            places = asks(rules, claim)
            self.assertTrue(holds(rules, claim) == places)
            self.assertIsNone(against(rules, claim))
            self.assertTrue(is_derivation(rules, claim, places, derivation(rules, claim)))
            parts = [(first, last, *told) for first, last in places.stretches]
            self.assertTrue(is_derivation(rules, claim, places, parts))

    def test_far(self):
        every = Places([(0, FAR)])
        rules = Rules(["f"], FAR, [Answers("f", Places([(3, 3)])), Spreads("f", every, "up"), Step("f", every, "<=", -1),
                                   Bound("f", Places([(3, 3)]), "<=", 0, 7), Bound("f", Places([(FAR, FAR)]), ">=", 0, 11 - FAR)])
        rows, end = impossible(rules)
        self.assertEqual(end[0], "ring")
        self.assertEqual(rows_hold(rules, rows, [], 0, 0), -1)
        loose = Rules(["f"], FAR, [*rules.told[:4], Bound("f", Places([(FAR, FAR)]), ">=", 0, 10 - FAR)])
        self.assertIsNone(impossible(loose))


class Equal(unittest.TestCase):
    def test_equal_calls_on_equal_objects_return_equal_results(self):
        for chance, rules in small_worlds(78, 150):
            again = Rules(list(rules.functions), rules.last, [clause.moved(0) for clause in rules.told])
            before = [clause.text() for clause in rules.told]
            claim = some_clause(chance, rules.functions, rules.last)
            calls = [(chance.choice(rules.functions), chance.randint(0, rules.last)) for _ in range(2)]
            for action in (impossible, lambda told: derivation(told, claim), lambda told: against(told, claim),
                           lambda told: ring(told, asked=calls), lambda told: grounds(told, calls[0], asked=calls[1:]),
                           lambda told: holds(told, claim)):
                first = action(rules)
                self.assertTrue(first == action(again) and first == action(rules))
            self.assertEqual([clause.text() for clause in rules.told], before)


class Examples(unittest.TestCase):
    def test_the_examples_of_the_document(self):
        straight = Rules(["f"], 10, [Answers("f", EVERY), Bound("f", EVERY, "=", 1, 0)])
        self.assertEqual(holds(straight, Bound("f", EVERY, "=", 0, 3)).text(), "3")
        falling = [Spreads("f", EVERY, "up"), Step("f", EVERY, "<=", -1), Bound("f", Places([(10, 10)]), ">=", 0, 0)]
        rules = Rules(["f"], 10, falling + [Bound("f", EVERY, "<=", 0, 5)])
        told = against(rules, Refuses("f", EVERY))
        self.assertEqual([holds(rules, Refuses("f", EVERY)).text(), told[0]], ["0-4", 5])
        self.assertTrue(told[1].keeps(rules.told) and told[1]("f", 5) is not None)
        hops = [(3, None, ("x", 0), "f", ("x", 0)), (1, "f", ("x", 0), "f", 10), (2, "f", 10, None, 10)]
        rows = [("f", ("x", 0), ("x", 0), ("asked",)), ("f", ("x", 1), 10, ("up", 0))]
        self.assertIs(is_derivation(rules, Refuses("f", EVERY), Places([(0, 4)]), [(0, 4, rows, ("ring", hops))]), True)

    def test_lines_that_cross_at_or_beside_a_place(self):
        every = Places([(0, FAR)])
        for at in (2, 10 ** 20, FAR - 2):
            for steep, by in ((1, 0), (3, 0), (3, 1), (3, -1), (BIG, 5)):
                line = Line(-steep, steep * at + by)
                rules = Rules(["f"], FAR, [Answers("f", every), Bound("f", every, "=", line.slope, line.height)])
                below = Places([(x, x) for x in (at - 1, at, at + 1) if line(x) <= 0]) | Places([(at + 2, FAR)])
                self.assertTrue(holds(rules, Bound("f", every, "<=", 0, 0)) == below)
                above = Places([(x, x) for x in (at - 1, at, at + 1) if line(x) >= 0]) | Places([(0, at - 2)])
                self.assertTrue(holds(rules, Bound("f", every, ">=", 0, 0)) == above)

    def test_several_lines_from_either_end(self):
        every = Places([(0, FAR)])
        at = FAR // 2
        # Each of the lines is the least one somewhere; the claim holds ahead of some place, or from some place on.
        for lines, wanted in (([(-10, 300), (-1, 25)], (20, FAR)), ([(-100, 9000), (-10, 990), (-1, 40)], (35, FAR)),
                              ([(10, 5 - 10 * (at - 9)), (1, 5 - at)], (0, at)), ([(7, 5 - 7 * at), (1, 5 - at - 4)], (0, at + 4)),
                              ([(1, 5 - at), (-1, 5 + at)], (0, FAR)), ([(3, 5 - 3 * at), (-9, 5 + 9 * at)], (0, FAR))):
            told = [Answers("f", every)] + [Bound("f", every, "<=", slope, height) for slope, height in lines]
            rules = Rules(["f"], FAR, told)
            self.assertEqual(holds(rules, Bound("f", every, "<=", 0, 5)).stretches, (wanted,))
            turned = Rules(["f"], FAR, [clause.negated() for clause in told])
            self.assertEqual(holds(turned, Bound("f", every, ">=", 0, -5)).stretches, (wanted,))
            self.assertTrue(holds(turned, Bound("f", every, "=", 0, -5)) == Places())
            for each, claim in ((rules, Bound("f", every, "<=", 0, 5)), (turned, Bound("f", every, ">=", 0, -5))):
                self.assertIs(is_derivation(each, claim, Places([wanted]), derivation(each, claim)), True)
            barred_above = Rules(["f"], FAR, [Bound("f", every, "<=", *line) for line in lines] + [Bound("f", every, ">=", 0, 6)])
            self.assertEqual(holds(barred_above, Refuses("f", every)).stretches, (wanted,))
            claim = Refuses("f", every)
            parts = derivation(barred_above, claim)
            self.assertIs(is_derivation(barred_above, claim, Places([wanted]), parts), True)

    def test_one_sign_by_a_sum_and_the_other_one_by_a_ring(self):
        every = Places([(0, FAR)])
        at = FAR // 5
        for told, wanted in (([Bound("f", every, "<=", 0, 5), Bound("f", every, ">=", 1, 5 - at)], (at, FAR)),
                             ([Bound("f", every, ">=", 0, 5), Bound("f", every, "<=", -1, 5 + at)], (at, FAR)),
                             ([Bound("f", every, "<=", 0, 5), Bound("f", every, ">=", -1, 5 + at)], (0, at))):
            rules = Rules(["f"], FAR, told)
            claim = Bound("f", every, "=", 0, 5)
            self.assertEqual(holds(rules, claim).stretches, (wanted,))
            parts = derivation(rules, claim)
            self.assertIs(is_derivation(rules, claim, Places([wanted]), parts), True)
            self.assertEqual({part[3][0] for part in parts}, {"ring", "sums"})

    def test_a_claim_that_fails_between_two_stretches(self):
        every = Places([(0, FAR)])
        at = FAR // 3
        told = [Answers("f", every), Bound("f", every, "<=", 2, 0), Bound("f", every, "<=", -3, 5 * at)]
        rules = Rules(["f"], FAR, told)
        claim = Bound("f", every, "<=", 0, 1000)
        high = -((1000 - 5 * at) // 3)
        self.assertEqual(holds(rules, claim).stretches, ((0, 500), (high, FAR)))
        x, program = against(rules, claim)
        self.assertEqual(x, 501)
        self.assertGreater(program("f", 501), 1000)

    def test_chains_that_turn_at_the_near_end_of_a_cell(self):
        every = Places([(0, 20)])
        told = [Answers("f", every), Step("f", every, ">=", 1), Bound("f", Places([(10, 15)]), "<=", 10, 0)]
        back = [clause.mirrored(20) for clause in told]
        self.assertEqual(holds(Rules(["f"], 20, told), Bound("f", every, "<=", 0, 92)).text(), "0-2")
        self.assertEqual(holds(Rules(["f"], 20, back), Bound("f", every, "<=", 0, 92)).text(), "18-20")

    def test_programs_against_claims_that_nothing_bounds(self):
        every = Places([(0, 999)])
        big = 10 ** 40
        answers = [Answers(f, every) for f in ("f", "g", "h")]
        cases = [(answers + [Pair("f", every, "<=", "g", 0, -big)], Bound("f", every, "<=", 0, 5)),
                 (answers + [Pair("f", every, "<=", "g", -big, 0)], Bound("f", Places([(999, 999)]), "<=", 0, 5)),
                 (answers + [Step("f", every, "<=", -big)], Bound("f", Places([(999, 999)]), "<=", 0, 5)),
                 (answers + [Step("f", every, ">=", big)], Bound("f", Places([(0, 0)]), "<=", 0, 5)),
                 (answers + [Pair("f", every, "<=", "g", 0, -big), Pair("g", every, "<=", "h", 0, -big),
                             Step("h", every, "<=", -big)], Bound("f", Places([(999, 999)]), "<=", 0, big))]
        for slope, height in ((0, -big), (-big, 0)):
            cases.append((answers + [Bound("f", every, "<=", slope, height)], Pair("f", Places([(999, 999)]), "<=", "g", 0, 5)))
            cases.append((answers + [Bound("g", every, ">=", -slope, -height)], Pair("f", Places([(999, 999)]), "<=", "g", 0, 5)))
        ladder = [Bound("g", Places([(k, k)]), "=", 0, 0) for k in range(0, 40, 2)]
        steps = [Pair("f", Places([(k, k + 1)]), "<=", "h", 0, -big) for k in range(0, 30, 3)]
        cases.append((answers + ladder + steps + [Step("f", every, "<=", -big), Step("h", every, "<=", -big)],
                      Bound("f", Places([(999, 999)]), "<=", 0, 5)))
        for told, claim in cases:
            for each, wanted in ((told, claim), ([clause.negated() for clause in told], claim.negated())):
                rules = Rules(["f", "g", "h"], 999, each)
                x, program = against(rules, wanted)
                self.assertEqual(x, wanted.places.least())
                self.assertTrue(program.keeps(each))
                self.assertIn(x, program.breaches(wanted))

    def test_no_places(self):
        rules = Rules(["f", "g"], 9, [Answers("f", Places([(0, 9)]))])
        for claim in (Answers("f", Places()), Step("f", Places([(3, 3)]), "=", 0), Pair("f", Places(), "=", "g", 0, 0)):
            self.assertEqual(holds(rules, claim).text(), "none")
            self.assertIsNone(against(rules, claim))
            self.assertEqual(derivation(rules, claim), ())
            self.assertIs(is_derivation(rules, claim, Places(), ()), True)
            self.assertIs(is_derivation(rules, claim, Places([(3, 3)]), ()), False)
        self.assertEqual(places_of([3, 4]).text(), "3-4")


if __name__ == "__main__":
    unittest.main()
