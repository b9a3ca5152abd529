"""Point 15: hops and their costs, rings, what can be answered, and the cheapest chains."""

import unittest

from openranges.clauses import Answers, Bound, Needs, Pair, Refuses, Spreads, Step
from openranges.errors import Impossible, NoFunction, NoPlace
from openranges.ladders import can_answer, cheapest, hop_cost, is_chain, ring
from openranges.musts import musts
from openranges.places import Places
from openranges.rules import Rules
from tests import oracle
from tests.changes import as_lists, changed
from tests.large import free_clause, some_large
from tests.plain import chance_of, program_of
from tests.refusing import Refusing
from tests.test_musts import RULES, cases
from tests.values import BIG, FAR, any_values

HOPPING = Rules(["f", "g", "h"], 20, [
    Bound("f", Places([(2, 9)]), "<=", 2, 5), Bound("f", Places([(2, 9)]), ">=", 3, -1),
    Pair("f", Places([(2, 9)]), "<=", "g", 1, 4), Pair("f", Places([(2, 9)]), ">=", "g", -2, 6),
    Step("f", Places([(2, 6), (8, 9)]), "<=", 7), Step("f", Places([(2, 6), (8, 9)]), ">=", -3),
    Bound("f", Places([(2, 9)]), "=", 2, 5), Pair("f", Places([(2, 9)]), "=", "g", 1, 4),
    Step("f", Places([(2, 6), (8, 9)]), "=", 7), Answers("f", Places([(0, 20)])), Refuses("h", Places([(0, 20)])),
    Needs("g", Places([(0, 20)]), "f"), Spreads("f", Places([(0, 20)]), "up"),
])


def ends(chance, rules):
    return chance.choice([None, (chance.choice(rules.functions), chance.randint(0, rules.last))])


class HopCost(unittest.TestCase):
    def test_each_kind_by_the_table(self):
        wanted = {
            (0, None, 4, "f", 4): 13, (0, "f", 4, None, 4): None, (1, "f", 4, None, 4): -11, (1, None, 4, "f", 4): None,
            (2, "g", 4, "f", 4): 8, (2, "f", 4, "g", 4): None, (3, "f", 4, "g", 4): 2, (3, "g", 4, "f", 4): None,
            (4, "f", 3, "f", 6): 21, (4, "f", 6, "f", 3): None, (5, "f", 6, "f", 3): 9, (5, "f", 3, "f", 6): None,
            (6, None, 4, "f", 4): 13, (6, "f", 4, None, 4): -13, (7, "g", 4, "f", 4): 8, (7, "f", 4, "g", 4): -8,
            (8, "f", 3, "f", 6): 21, (8, "f", 6, "f", 3): -21,
        }
        for hop, cost in wanted.items():
            self.assertEqual(hop_cost(HOPPING, hop), cost, hop)
            self.assertEqual(hop_cost(HOPPING, list(hop)), cost, hop)

    def test_what_is_no_hop(self):
        hops = [(0, None, 1, "f", 1), (0, None, 10, "f", 10), (0, None, 4, "f", 5), (2, "g", 4, "f", 5), (0, "g", 4, "f", 4)]
        hops += [(0, None, 4, "g", 4), (2, "h", 4, "f", 4), (2, "g", 4, "h", 4), (2, None, 4, "f", 4), (0, None, 4, None, 4)]
        hops += [(4, "f", 3, "f", 3), (4, "f", 5, "f", 8), (4, "f", 6, "f", 8), (4, "f", 1, "f", 3), (4, "f", 9, "f", 10)]
        hops += [(4, "g", 3, "g", 4), (4, "f", 3, "g", 4), (4, None, 3, "f", 4), (4, "f", 3, None, 4), (8, "f", 5, "f", 5)]
        hops += [(1, "f", 4, "g", 4), (1, "f", 4, "f", 4), (1, "g", 4, None, 4), (3, "f", 4, "h", 4), (3, "f", 4, None, 4)]
        hops += [(3, "h", 4, "g", 4), (3, None, 4, "g", 4), (2, "g", 4, None, 4), (2, "g", 4, "g", 4), (6, None, 4, "h", 4)]
        hops += [(9, None, 4, "f", 4), (10, "h", 4, None, 4), (11, "f", 4, "g", 4), (12, "f", 4, "f", 5)]
        hops += [(13, None, 4, "f", 4), (-1, "f", 3, "f", 4), (-13, None, 4, "f", 4), (None, None, 4, "f", 4)]
        hops += [(False, None, 4, "f", 4), (True, "f", 4, None, 4), (0, None, 4, "f"), (0, None, 4, "f", 4, 4), ()]
        hops += [(0, None, ("x", 4), "f", ("x", 4)), (0, None, "4", "f", "4"), (0, None, None, "f", None), "01234"]
        for hop in hops:
            self.assertIsNone(hop_cost(HOPPING, hop), hop)
        ones = Rules(["f"], 1, [Bound("f", Places([(0, 1)]), "<=", 2, 5), Step("f", Places([(0, 1)]), "=", 1)])
        self.assertEqual(hop_cost(ones, (0, None, 1, "f", 1)), 7)
        for hop in ((-1, "f", 0, "f", 1), (-2, None, 1, "f", 1), (2, "f", 0, "f", 1), (0, None, True, "f", 1), (0, None, 1, "f", True), (True, "f", 0, "f", 1), (1, "f", False, "f", True)):
            self.assertIsNone(hop_cost(ones, hop))

    def test_any_values(self):
        for value in any_values():
            self.assertIsNone(hop_cost(HOPPING, value))
            for at in range(5):
                for hop in ([0, None, 4, "f", 4], [4, "f", 3, "f", 6], [2, "g", 4, "f", 4]):
                    hop[at] = value
                    known = oracle.hops(HOPPING)
                    self.assertEqual(hop_cost(HOPPING, hop), oracle.cost_of(HOPPING, hop, known), hop)

    def test_large_numbers(self):
        rules = Rules(["f"], FAR, [Step("f", Places([(0, FAR)]), ">=", BIG), Bound("f", Places([(0, FAR)]), "=", BIG, -BIG)])
        self.assertEqual(hop_cost(rules, (0, "f", FAR, "f", 0)), -BIG * FAR)
        self.assertEqual(hop_cost(rules, (1, "f", FAR, None, FAR)), -(BIG * FAR - BIG))


class Plainly(unittest.TestCase):
    def test_rings_and_what_can_be_answered(self):
        found = {True: 0, False: 0}
        for _, rules, asked in cases(51, 1200):
            have = oracle.grown(rules, asked)
            known = oracle.hops(rules)
            hops = ring(rules, asked=asked)
            self.assertEqual(hops is None, oracle.costs(rules, have) is not None)
            world = oracle.World(rules)
            self.assertIs(can_answer(rules, asked), world.can_answer(asked))
            self.assertIs(can_answer(rules, tuple(asked) * 2), world.can_answer(asked))
            found[hops is None] += 1
            if hops is not None:
                self.assertIs(type(hops), tuple)
                start = oracle.call(hops[0][1], hops[0][2])
                self.assertTrue(oracle.chained(rules, hops, start, start, have, known))
                self.assertLess(sum(known[hop] for hop in hops), 0)
                self.assertTrue(is_chain(rules, hops, start, start, asked=asked))
        self.assertTrue(min(found.values()) > 40, found)

    def test_cheapest(self):
        found = {"impossible": 0, "none": 0, "chain": 0, "itself": 0}
        for chance, rules, asked in cases(52, 1200):
            world = oracle.World(rules)
            known = oracle.hops(rules)
            for _ in range(4):
                start, goal = ends(chance, rules), ends(chance, rules)
                calls = list(asked) + [one for one in (start, goal) if one is not None]
                have, costs = world.asked(calls)
                if costs is None:
                    self.assertRaises(Impossible, cheapest, rules, start, goal, asked=asked)
                    found["impossible"] += 1
                    continue
                told = cheapest(rules, start, goal, asked=asked)
                if (start, goal) not in costs:
                    self.assertIsNone(told)
                    found["none"] += 1
                    continue
                self.assertEqual(told[0], costs[(start, goal)])
                self.assertEqual((type(told), type(told[1])), (tuple, tuple))
                self.assertEqual(sum(known[hop] for hop in told[1]), told[0])
                self.assertTrue(oracle.chained(rules, told[1], start, goal, have, known))
                self.assertTrue(is_chain(rules, as_lists(told[1]), start, goal, asked=calls))
                if start == goal:
                    self.assertEqual(told, (0, ()))
                found["itself" if start == goal else "chain"] += 1
        self.assertTrue(min(found.values()) > 100, found)

    def test_chains_changed_by_one_thing(self):
        right = 0
        for chance, rules, asked in cases(53, 1500):
            start, goal = ends(chance, rules), ends(chance, rules)
            calls = list(asked) + [one for one in (start, goal) if one is not None]
            have, costs = oracle.World(rules).asked(calls)
            if costs is None or (start, goal) not in costs:
                continue
            hops = cheapest(rules, start, goal, asked=asked)[1]
            known = oracle.hops(rules)
            for _ in range(10):
                other = changed(chance, hops)
                wanted = oracle.chained(rules, other, start, goal, have, known)
                self.assertIs(is_chain(rules, other, start, goal, asked=calls), wanted, (other, rules.told))
                right += wanted
            start, goal = ends(chance, rules), ends(chance, rules)
            for few in (calls, asked, []):
                wanted = oracle.chained(rules, hops, start, goal, oracle.grown(rules, few), known)
                self.assertIs(is_chain(rules, hops, start, goal, asked=few), wanted)
        self.assertGreater(right, 150)

    def test_the_set_is_that_of_the_asked_calls_alone(self):
        rules = Rules(["f"], 9, [Bound("f", Places([(0, 9)]), "<=", 0, 3), Spreads("f", Places([(4, 7)]), "up")])
        hops = [(0, None, 6, "f", 6)]
        self.assertIs(is_chain(rules, hops, None, ("f", 6)), False)
        self.assertIs(is_chain(rules, hops, None, ("f", 6), asked=[("f", 5)]), True)
        self.assertIs(is_chain(rules, hops, None, ("f", 6), asked=[("f", 7)]), False)
        self.assertIs(is_chain(rules, [], ("f", 6), ("f", 6)), True)
        self.assertIs(is_chain(rules, (), None, None), True)
        self.assertIs(is_chain(rules, (), None, ("f", 6)), False)
        self.assertIs(is_chain(rules, (), ("f", 5), ("f", 6), asked=[("f", 5)]), False)
        for value in any_values():
            if not isinstance(value, (tuple, list)) or value:
                self.assertIs(is_chain(rules, value, None, None), False)

    def test_the_examples_of_the_document(self):
        self.assertEqual([cheapest(RULES, None, ("g", 6))[0], cheapest(RULES, ("g", 3), None), ring(RULES)], [5, None, None])
        hops = [(3, None, 2, "f", 2), (5, "f", 2, "g", 2), (4, "g", 2, "g", 6)]
        self.assertIs(is_chain(RULES, hops, None, ("g", 6)), True)
        self.assertEqual(cheapest(RULES, None, None), (0, ()))


class OverAllPrograms(unittest.TestCase):
    def test_answers_and_differences_of_all_let_programs(self):
        chance = chance_of(56)
        for functions, last, top, many in ((["f"], 3, 2, 120), (["f", "g"], 1, 2, 60), (["f", "g"], 2, 1, 30)):
            for _ in range(many):
                rules = oracle.bounded_rules(chance, functions, last, chance.randint(0, 6), top)
                let = oracle.all_let(rules, top)
                for _ in range(4):
                    start, goal = ends(chance, rules), ends(chance, rules)
                    calls = [one for one in (start, goal) if one is not None]
                    both = [outcomes for outcomes in let if all(outcomes[f][x] is not None for f, x in calls)]
                    self.assertIs(can_answer(rules, calls), bool(both))
                    if not both:
                        self.assertRaises(Impossible, cheapest, rules, start, goal)
                        continue
                    rises = [self.value(outcomes, goal) - self.value(outcomes, start) for outcomes in both]
                    self.assertEqual(cheapest(rules, start, goal)[0], max(rises))

    def value(self, outcomes, call):
        return 0 if call is None else outcomes[call[0]][call[1]]


class Large(unittest.TestCase):
    def test_rings_in_large_worlds(self):
        chance = chance_of(54)
        found = 0
        for _ in range(150):
            _, rules = some_large(chance, chance.choice((5, 10, 25)))
            free = [free_clause(chance, rules) for _ in range(6)] + [Answers("f", Places([(0, FAR)]))]
            rules = Rules(rules.functions, rules.last, [*rules.told, *free])
            asked = [(chance.choice(rules.functions), chance.randint(0, FAR)) for _ in range(chance.randint(0, 3))]
            hops = ring(rules, asked=asked)
            if hops is not None:
                found += 1
                start = oracle.call(hops[0][1], hops[0][2])
                self.assertLess(sum(hop_cost(rules, hop) for hop in hops), 0)
                self.assertTrue(is_chain(rules, hops, start, start, asked=asked))
                have = musts(rules, asked=asked)
                for _, f, p, g, q in hops:
                    self.assertTrue(f is None or p in have[f] and (f != g or Places([(min(p, q), max(p, q))]).within(have[f])))
        self.assertGreater(found, 20)

    def test_a_let_program_has_no_ring_and_keeps_the_costs(self):
        chance = chance_of(55)
        for _ in range(80):
            program, rules = some_large(chance, chance.choice((8, 20, 60)))
            self.assertIsNone(ring(rules))
            places = {f: program.answered(f) for f in rules.functions}
            calls = [(f, places[f][chance.randrange(places[f].size())]) for f in rules.functions if places[f]]
            self.assertTrue(can_answer(rules, calls))
            for start in [None, *calls]:
                for goal in [None, *calls]:
                    found = cheapest(rules, start, goal, asked=calls)
                    if found is not None:
                        at_start = 0 if start is None else program(*start)
                        at_goal = 0 if goal is None else program(*goal)
                        self.assertLessEqual(at_goal - at_start, found[0])
                        self.assertEqual(sum(hop_cost(rules, hop) for hop in found[1]), found[0])
                        self.assertTrue(is_chain(rules, found[1], start, goal, asked=calls))

    def test_all_answers_of_a_let_program_can_be_answered_together(self):
        chance = chance_of(57)
        for _ in range(60):
            program, rules = some_large(chance, chance.choice((5, 15, 40)), last=chance.choice((9, 20)))
            calls = [(f, x) for f in rules.functions for x in range(rules.last + 1) if program(f, x) is not None]
            self.assertTrue(program.keeps(rules.told))
            self.assertTrue(can_answer(rules, calls))
            self.assertIsNone(ring(rules, asked=calls))

    def test_costs_over_far_places(self):
        every = Places([(0, FAR)])
        told = [Answers("f", every), Step("f", every, "<=", 3), Bound("f", Places([(7, 7)]), "<=", 0, 5)]
        rules = Rules(["f"], FAR, told + [Step("f", every, ">=", 2)])
        self.assertEqual(cheapest(rules, None, ("f", FAR))[0], 5 + 3 * (FAR - 7))
        self.assertEqual(cheapest(rules, None, ("f", 0))[0], 5 - 14)
        self.assertEqual(cheapest(rules, ("f", FAR), ("f", 1))[0], -2 * (FAR - 1))
        self.assertIsNone(cheapest(rules, ("f", FAR), None))


class Errors(Refusing):
    def test_wrong_calls_in_order(self):
        impossible = Rules(["f"], 9, [Answers("f", Places([(0, 9)])), Refuses("f", Places([(3, 3)]))])
        good = ("f", 3)
        wrong = [(NoFunction, word, (word, x)) for word in ("h", "", None, 0, True) for x in (0, 99, None)]
        wrong += [(NoPlace, x, ("f", x)) for x in (10, -1, FAR + 1, None, True, "3")]
        for rules in (RULES, impossible):
            for error, value, call in wrong:
                for asked in ([call], [good, call, ("z", 0)]):
                    self.refused(error, value, lambda: ring(rules, asked=asked))
                    self.refused(error, value, lambda: can_answer(rules, asked))
                    self.refused(error, value, lambda: cheapest(rules, good, None, asked=asked))
                    self.refused(error, value, lambda: is_chain(rules, 7, None, good, asked=asked))
                for start, goal in ((call, ("z", 1)), (good, call), (None, call), (call, None)):
                    for asked in ([], [("y", 99)]):
                        self.refused(error, value, lambda: cheapest(rules, start, goal, asked=asked))
                        self.refused(error, value, lambda: is_chain(rules, 7, start, goal, asked=asked))

    def test_impossible(self):
        barred = Rules(["f"], 9, [Answers("f", Places([(0, 9)])), Refuses("f", Places([(3, 3)]))])
        ringed = Rules(["f"], 9, [Bound("f", Places([(0, 4)]), "<=", 0, 1), Bound("f", Places([(4, 9)]), ">=", 0, 2)])
        for start, goal in ((None, None), (("f", 3), ("f", 3)), (None, ("f", 4))):
            self.assertRaises(Impossible, cheapest, barred, start, goal)
        self.assertRaises(Impossible, cheapest, ringed, ("f", 4), ("f", 4))
        self.assertRaises(Impossible, cheapest, ringed, None, None, asked=[("f", 4)])
        self.assertEqual(cheapest(ringed, None, None), (0, ()))
        self.assertEqual([can_answer(barred, []), can_answer(ringed, []), can_answer(ringed, [("f", 4)])], [False, True, False])
        self.assertEqual(program_of({"f": [1]})("f", 0), 1)


if __name__ == "__main__":
    unittest.main()
