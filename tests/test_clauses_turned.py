"""Point 11: clauses negated, multiplied, moved and mirrored, held against the table of point 4."""

import unittest

from openranges.clauses import Answers, Bound, Needs, Pair, Refuses, Spreads, Step
from openranges.errors import BadFactor
from openranges.places import Places
from tests.plain import broken, chance_of, members, places_of, some_clause, some_outcomes, speaks_of
from tests.test_clauses import ARGUMENTS, KINDS, all_made, made
from tests.values import BIG, FAR, any_values

LAST = 7
FUNCTIONS = ("f", "g", "h")


def cases(seed, many, beyond=0):
    chance = chance_of(seed)
    for _ in range(many):
        yield chance, some_clause(chance, FUNCTIONS, LAST, beyond=beyond), some_outcomes(chance, FUNCTIONS, LAST)


def turned(outcomes, change):
    return {word: [None if answer is None else change(answer) for answer in row] for word, row in outcomes.items()}


class Turned(unittest.TestCase):
    def test_negated(self):
        for _, clause, outcomes in cases(1, 1500):
            self.assertEqual(broken(clause.negated(), turned(outcomes, lambda answer: -answer)), broken(clause, outcomes))
            self.assertTrue(clause.negated().negated() == clause)
            self.assertEqual(clause.negated().kind, clause.kind)

    def test_negated_field_by_field(self):
        places = Places([(1, 4)])
        for sign, other in (("<=", ">="), (">=", "<="), ("=", "=")):
            self.assertTrue(Bound("f", places, sign, 2, -3).negated() == Bound("f", places, other, -2, 3))
            self.assertTrue(Pair("f", places, sign, "g", 2, -3).negated() == Pair("f", places, other, "g", -2, 3))
            self.assertTrue(Step("f", places, sign, 5).negated() == Step("f", places, other, -5))
        for clause in (Answers("f", places), Refuses("f", places), Needs("f", places, "g"), Spreads("f", places, "up")):
            self.assertTrue(clause.negated() == clause)

    def test_times(self):
        for chance, clause, outcomes in cases(2, 1500):
            for factor in (1, 2, 5, 10 ** 9, BIG):
                many = turned(outcomes, lambda answer: answer * factor)
                self.assertEqual(broken(clause.times(factor), many), broken(clause, outcomes))
            self.assertTrue(clause.times(1) == clause)
            self.assertTrue(clause.times(2).times(3) == clause.times(6))

    def test_times_field_by_field(self):
        for kind, arguments, clause in all_made():
            for factor in (1, 3, 10 ** 9, BIG):
                many = clause.times(factor)
                for name in ARGUMENTS[kind]:
                    value = getattr(clause, name)
                    wanted = value * factor if name in ("slope", "height") else value
                    self.assertTrue(getattr(many, name) == wanted)

    def test_wrong_factors(self):
        for kind in KINDS:
            for value in any_values():
                if isinstance(value, int) and not isinstance(value, bool) and value >= 1:
                    continue
                with self.assertRaises(BadFactor) as caught:
                    made(kind).times(value)
                self.assertIs(caught.exception.factor, value)

    def test_moved(self):
        for chance, clause, outcomes in cases(3, 1500):
            by = chance.randint(0, 6)
            ahead = {word: [None] * by + row for word, row in outcomes.items()}
            self.assertEqual(broken(clause.moved(by), ahead), [x + by for x in broken(clause, outcomes)])
            self.assertTrue(clause.moved(by).moved(-by) == clause)
            self.assertTrue(clause.moved(0) == clause)

    def test_moved_over_the_lower_end(self):
        for chance, clause, outcomes in cases(4, 1500):
            by = chance.randint(1, LAST)
            cut = {word: row[by:] for word, row in outcomes.items()}
            self.assertEqual(broken(clause.moved(-by), cut), [x - by for x in broken(clause, outcomes) if x >= by])

    def test_moved_over_the_upper_end(self):
        clause = Bound("f", Places([(3, 5), (FAR - 1, FAR)]), "<=", 2, 1)
        self.assertEqual(clause.moved(1).text(), f"bound f 4-6 {FAR} <= 2 x - 1")
        self.assertEqual(clause.moved(FAR - 4).text(), f"bound f {FAR - 1}-{FAR} <= 2 x - {2 * FAR - 9}")
        self.assertEqual(clause.moved(-4).text(), f"bound f 0-1 {FAR - 5}-{FAR - 4} <= 2 x + 9")
        self.assertEqual(Spreads("f", Places([(3, 5)]), "down").moved(BIG).text(), "spreads f none down")
        self.assertEqual(Step("f", Places([(3, 5)]), ">=", 4).moved(-5).text(), "step f 0 >= 4")

    def test_mirrored(self):
        for chance, clause, outcomes in cases(5, 1500):
            back = {word: row[::-1] for word, row in outcomes.items()}
            beyond = 1 if clause.kind in ("spreads", "step") else 0
            wanted = sorted(LAST - beyond - x for x in broken(clause, outcomes))
            self.assertEqual(broken(clause.mirrored(LAST), back), wanted)
            self.assertTrue(clause.mirrored(LAST).mirrored(LAST) == clause)

    def test_mirrored_in_places_below_among_and_above(self):
        for chance, clause, outcomes in cases(6, 1500, beyond=4):
            last = chance.randint(0, 14)
            among = [x for x in members(clause.places) if x <= last]
            turned_clause = clause.mirrored(last)
            self.assertTrue(turned_clause.places == places_of([last - x for x in among]))
            wide = {word: (row + [None] * 20)[:last + 1] for word, row in outcomes.items()}
            back = {word: row[::-1] for word, row in wide.items()}
            beyond = 1 if clause.kind in ("spreads", "step") else 0
            wanted = sorted(last - beyond - x for x in broken(clause, wide))
            self.assertEqual(broken(turned_clause, back), wanted)

    def test_mirrored_field_by_field(self):
        places, back = Places([(1, 4)]), Places([(5, 8)])
        for sign, other in (("<=", ">="), (">=", "<="), ("=", "=")):
            self.assertTrue(Bound("f", places, sign, 2, -3).mirrored(9) == Bound("f", back, sign, -2, 15))
            self.assertTrue(Pair("f", places, sign, "g", 2, -3).mirrored(9) == Pair("f", back, sign, "g", -2, 15))
            self.assertTrue(Step("f", places, sign, 5).mirrored(9) == Step("f", back, other, -5))
        for way, other in (("up", "down"), ("down", "up")):
            self.assertTrue(Spreads("f", places, way).mirrored(9) == Spreads("f", back, other))
        self.assertTrue(Answers("f", places).mirrored(9) == Answers("f", back))
        self.assertTrue(Refuses("f", places).mirrored(FAR) == Refuses("f", Places([(FAR - 4, FAR - 1)])))
        self.assertTrue(Needs("f", places, "g").mirrored(0) == Needs("f", Places(), "g"))

    def test_the_elder_clause_stays(self):
        for _, clause, outcomes in cases(7, 300):
            before = (clause.text(), clause.places.stretches)
            for action in (clause.negated, lambda: clause.times(7), lambda: clause.moved(2), lambda: clause.mirrored(5)):
                action()
            self.assertEqual((clause.text(), clause.places.stretches), before)
            self.assertEqual(speaks_of(clause), speaks_of(clause.negated()))


if __name__ == "__main__":
    unittest.main()
