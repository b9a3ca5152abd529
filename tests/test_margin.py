"""Point 20: rules tightened, margins, slacks, and which clauses are tight."""

import unittest

from openranges.clauses import Answers, Bound, Needs, Pair, Refuses, Spreads, Step
from openranges.errors import BadKind, Impossible, NoClause
from openranges.ladders import can_answer
from openranges.margin import margin, slack, tight, tightened
from openranges.places import Places
from openranges.programs import mined
from openranges.rules import Rules
from openranges.strongest import with_number
from tests import oracle, turned
from tests.large import some_large, with_bounds
from tests.plain import chance_of, program_of, some_clause, some_outcomes
from tests.refusing import Refusing
from tests.test_clauses import all_made
from tests.test_ranges import BROKEN
from tests.values import BIG, FAR

EVERY = Places([(0, 9)])
NUMBERS = ("bound", "pair", "step")
TOLD = [Answers("f", EVERY), Bound("f", EVERY, "<=", 2, 5), Bound("f", EVERY, ">=", 1, 0)]
RULES = Rules(["f", "g"], 9, TOLD + [Pair("g", EVERY, "<=", "f", 0, 1)])
VERY_FAR = 10 ** 200


def one_sided(clause):
    return clause.kind in NUMBERS and clause.sign != "="


def tightened_clause(clause, amount):
    return with_number(clause, clause.height + (-amount if clause.sign == "<=" else amount))


def by_one_clause(rules, index, amount):
    """The rules with one clause tightened."""
    told = list(rules.told)
    told[index] = tightened_clause(told[index], amount)
    return Rules(rules.functions, rules.last, told)


def tense_worlds(seed, many, high=9, most=6):
    """Small worlds with a program that keeps all clauses, most of them about numbers and with little room."""
    chance = chance_of(seed)
    for _ in range(many):
        functions = ["f", "g", "h"][:chance.randint(1, 3)]
        last = chance.randint(0, high)
        program = program_of(some_outcomes(chance, functions, last, refused=0.15))
        told = [Answers(f, program.answered(f) & Places([(chance.randint(0, last // 2), last)])) for f in functions]
        for _ in range(chance.randint(1, most)):
            clause = mined([program], turned.with_sign(some_clause(chance, functions, last, NUMBERS), chance.choice(("<=", ">="))))
            if clause is None:
                continue
            exact = turned.with_sign(clause, "=")
            room = chance.choice((0, 0, 1, 2, 5, 12))
            told.append(exact if program.keeps([exact]) and chance.random() < 0.4 else tightened_clause(clause, -room))
        for _ in range(chance.choice((0, 1))):
            clause = some_clause(chance, functions, last, ("needs", "spreads"))
            told += [clause] if program.keeps([clause]) else []
        chance.shuffle(told)
        yield chance, Rules(functions, last, told)


def margin_of_rings(rules, chosen):
    """The least cost by uses of the rings that use chosen clauses, rounded down; None without such a ring."""
    have = oracle.grown(rules, [])
    leading = {}
    for hop, cost in oracle.hops(rules).items():
        if oracle.calls_of(hop) <= have:
            index, f, p, g, q = hop
            uses = (abs(q - p) if rules.told[index].kind == "step" else 1) if index in chosen else 0
            leading.setdefault(oracle.call(f, p), []).append((oracle.call(g, q), cost, uses))
    found = []
    for start in leading:
        _follow(leading, start, start, {start}, 0, 0, found)
    return min(found, default=None)


def _follow(leading, start, at, been, cost, uses, found):
    """Takes the quotients of all rings that come from here back to the start without a call twice."""
    for goal, further, used in leading.get(at, []):
        if goal == start and uses + used:
            found.append((cost + further) // (uses + used))
        elif goal not in been:
            _follow(leading, start, goal, been | {goal}, cost + further, uses + used, found)


class Tightened(unittest.TestCase):
    def test_each_kind_and_sign(self):
        for kind, _, clause in all_made():
            if (clause.places.greatest() or 0) > FAR:
                continue
            rules = Rules([*clause.functions_told(), "zz"], FAR, [clause, Answers("zz", EVERY), clause])
            for amount in (0, 1, -1, 7, BIG, -BIG):
                told = tightened(rules, amount)
                self.assertIs(type(told), Rules)
                self.assertEqual((told.functions, told.last, len(told.told)), (rules.functions, FAR, 3))
                self.assertTrue(told.told[1] == Answers("zz", EVERY) and told.told[0] == told.told[2])
                if not one_sided(clause):
                    self.assertTrue(told.told[0] == clause)
                    continue
                height = clause.height - amount if clause.sign == "<=" else clause.height + amount
                self.assertTrue(told.told[0] == with_number(clause, height))
                self.assertTrue(tightened(told, -amount) == rules)
            self.assertTrue(rules.told[0] == clause)

    def test_impossible_rules_too(self):
        self.assertTrue(tightened(BROKEN, 1).told[1] == Bound("f", EVERY, "<=", 2, 4))
        self.assertTrue(tightened(Rules(["f"], 0, []), 3) == Rules(["f"], 0, []))


class Margins(unittest.TestCase):
    def test_the_example_of_the_document(self):
        self.assertEqual([margin(RULES), slack(RULES, 1), slack(RULES, 3), tight(RULES)], [2, 5, None, ()])

    def test_small_worlds(self):
        found = {"none": 0, "nought": 0, "more": 0}
        for _, rules in tense_worlds(241, 600, 20, 12):
            told = margin(rules)
            if told is None:
                for amount in (1, BIG, VERY_FAR):
                    self.assertTrue(can_answer(tightened(rules, amount), []))
                self.assertTrue(oracle.World(tightened(rules, VERY_FAR)).can_answer([]))
            else:
                self.assertGreaterEqual(told, 0)
                self.assertTrue(oracle.World(tightened(rules, told)).can_answer([]), (rules.told, told))
                self.assertFalse(oracle.World(tightened(rules, told + 1)).can_answer([]), (rules.told, told))
            found["none" if told is None else "more" if told else "nought"] += 1
        self.assertGreater(min(found.values()), 30, found)

    def test_against_the_rings(self):
        found = {"none": 0, "nought": 0, "more": 0}
        for _, rules in tense_worlds(242, 800, 4, 7):
            if len(rules.functions) * (rules.last + 1) > 6:
                continue
            chosen = [index for index, clause in enumerate(rules.told) if one_sided(clause)]
            told = margin(rules)
            self.assertEqual(told, margin_of_rings(rules, chosen), rules.told)
            for index in chosen:
                self.assertEqual(slack(rules, index), margin_of_rings(rules, [index]))
            found["none" if told is None else "more" if told else "nought"] += 1
        self.assertGreater(min(found.values()), 30, found)

    def test_steps_between_places_that_are_far_apart(self):
        every = Places([(0, FAR)])
        for rise, room in ((3, 0), (3, 5), (0, 10 ** 31), (-2, 3 * FAR), (-2, 3 * FAR - 1), (5, 4 * FAR + 7)):
            told = [Answers("f", every), Step("f", every, "<=", rise), Bound("f", Places([(0, 0)]), "=", 0, 0),
                    Bound("f", Places([(FAR, FAR)]), "=", 0, rise * FAR - room)]
            rules = Rules(["f"], FAR, told)
            self.assertEqual(margin(rules), room // FAR)
            self.assertEqual(slack(rules, 1), room // FAR)
            self.assertEqual(tight(rules), (1,) if room < FAR else ())
            # One more use beside those of the step.
            loose = Rules(["f"], FAR, told[:3] + [Bound("f", Places([(FAR, FAR)]), ">=", 0, rise * FAR - room)])
            self.assertEqual((margin(loose), slack(loose, 1), slack(loose, 3)), (room // (FAR + 1), room // FAR, room))

    def test_two_steps_against_each_other(self):
        for up, down in ((5, 5), (5, 4), (5, 2), (-3, -10), (BIG, -BIG)):
            told = [Answers("f", Places([(3, FAR)])), Step("f", Places([(0, FAR)]), "<=", up), Step("f", Places([(9, FAR)]), ">=", down)]
            rules = Rules(["f"], FAR, told)
            self.assertEqual((margin(rules), slack(rules, 1), slack(rules, 2)), ((up - down) // 2, up - down, up - down))
            self.assertEqual(tight(rules), (1, 2) if up == down else ())

    def test_none(self):
        every = Places([(0, FAR)])
        free = [[], [Answers("f", every)], [Bound("f", every, "<=", 0, 0), Bound("f", every, ">=", 0, 0)],
                [Answers("f", every), Step("f", every, "<=", 0), Bound("f", every, "<=", 0, 0)],
                [Answers("f", every), Bound("f", every, "=", 1, 2), Step("f", every, "=", 1)]]
        for told in free:
            rules = Rules(["f"], FAR, told)
            self.assertIsNone(margin(rules))
            self.assertEqual(tight(rules), ())
            self.assertTrue(can_answer(tightened(rules, VERY_FAR), []))
            for index, clause in enumerate(told):
                if one_sided(clause):
                    self.assertIsNone(slack(rules, index))

    def test_large_worlds(self):
        chance = chance_of(243)
        found = {"none": 0, "nought": 0, "more": 0}
        for _ in range(50):
            program, rules = some_large(chance, chance.choice((6, 15, 40)), "fgh"[:chance.randint(1, 3)])
            rules = with_bounds(chance, program, rules, 0.5)
            told = margin(rules)
            found["none" if told is None else "more" if told else "nought"] += 1
            if told is None:
                self.assertTrue(can_answer(tightened(rules, VERY_FAR), []))
                continue
            self.assertTrue(can_answer(tightened(rules, told), []))
            self.assertFalse(can_answer(tightened(rules, told + 1), []))
            # The program keeps what is tightened again by as much as it was loosened.
            by = chance.choice((1, 10 ** 9, 10 ** 40))
            loose = tightened(rules, -by)
            self.assertTrue(program.keeps(tightened(loose, by).told))
            self.assertEqual(margin(loose), told + by)
            self.assertEqual(margin(turned.negated(rules)), told)
            self.assertEqual(margin(turned.mirrored(rules)), told)
        self.assertGreater(min(found.values()), 3, found)

    def test_sixty_clauses(self):
        chance = chance_of(244)
        for _ in range(3):
            program, rules = some_large(chance, 60)
            told = margin(rules)
            self.assertTrue(can_answer(tightened(rules, told or 0), []))
            self.assertEqual(can_answer(tightened(rules, VERY_FAR if told is None else told + 1), []), told is None)
            slacks = [slack(rules, index) if one_sided(clause) else None for index, clause in enumerate(rules.told)]
            self.assertEqual(tight(rules), tuple([index for index, each in enumerate(slacks) if each == 0]))
            known = [each for each in slacks if each is not None]
            self.assertTrue(not known or told <= min(known))


class Slacks(Refusing):
    def test_small_worlds(self):
        found = {"none": 0, "nought": 0, "more": 0}
        for _, rules in tense_worlds(245, 300, 12, 9):
            wanted = []
            for index, clause in enumerate(rules.told):
                if not one_sided(clause):
                    self.assertRaises(BadKind, slack, rules, index)
                    continue
                told = slack(rules, index)
                if told is None:
                    self.assertTrue(oracle.World(by_one_clause(rules, index, VERY_FAR)).can_answer([]))
                else:
                    self.assertGreaterEqual(told, 0)
                    self.assertTrue(oracle.World(by_one_clause(rules, index, told)).can_answer([]))
                    self.assertFalse(oracle.World(by_one_clause(rules, index, told + 1)).can_answer([]))
                found["none" if told is None else "more" if told else "nought"] += 1
                wanted += [index] if told == 0 else []
            self.assertEqual(tight(rules), tuple(wanted))
        self.assertGreater(min(found.values()), 15, found)

    def test_the_same_clause_twice(self):
        rules = Rules(["f"], 9, [*TOLD, TOLD[1]])
        self.assertEqual([margin(rules), slack(rules, 1), slack(rules, 3), slack(rules, 2)], [2, 5, 5, 5])

    def test_large_worlds(self):
        chance = chance_of(246)
        found = {"none": 0, "nought": 0, "more": 0}
        for _ in range(30):
            program, rules = some_large(chance, chance.choice((6, 20)), "fgh"[:chance.randint(1, 3)])
            rules = with_bounds(chance, program, rules, 0.5)
            for index, clause in enumerate(rules.told):
                if one_sided(clause):
                    told = slack(rules, index)
                    self.assertTrue(can_answer(by_one_clause(rules, index, told or 0), []))
                    further = VERY_FAR if told is None else told + 1
                    self.assertEqual(can_answer(by_one_clause(rules, index, further), []), told is None)
                    found["none" if told is None else "more" if told else "nought"] += 1
        self.assertGreater(min(found.values()), 5, found)

    def test_indexes(self):
        for value in (None, True, False, -1, 4, 60, FAR, "0", ""):
            self.refused(NoClause, value, lambda: slack(RULES, value))
        self.refused(NoClause, 0, lambda: slack(Rules(["f"], 0, []), 0))

    def test_kinds(self):
        wrong = [Answers("f", EVERY), Refuses("f", Places([(12, 20)])), Needs("g", EVERY, "f"), Spreads("f", EVERY, "up")]
        wrong += [Bound("f", Places(), "=", 0, 0), Pair("f", EVERY, "=", "g", 0, 0), Step("f", Places(), "=", 0)]
        rules = Rules(["f", "g"], 20, wrong)
        for index in range(len(wrong)):
            self.assertRaises(BadKind, slack, rules, index)

    def test_impossible_ahead_of_all(self):
        for action in (margin, tight, *[lambda rules, index=index: slack(rules, index) for index in (0, 1, None, True, -1, 99)]):
            self.assertRaises(Impossible, action, BROKEN)
            self.assertRaises(Impossible, action, tightened(RULES, 3))


if __name__ == "__main__":
    unittest.main()
