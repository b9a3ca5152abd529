"""Point 12: programs joined, changed, turned and compared, and clauses that are mined."""

import unittest

from openranges.clauses import Answers, Bound, Needs, Pair, Refuses, Spreads, Step
from openranges.errors import BadFactor, BadKind, NoFunction, NoPlace, OtherShape
from openranges.lines import Line
from openranges.places import Places
from openranges.programs import Program, first_difference, mined
from tests.plain import broken, chance_of, kept_at, outcomes_of, program_of, some_clause, some_outcomes, some_places, speaks_of
from tests.values import BIG, FAR, any_values

WORDS = ("f", "g")
NO_FUNCTIONS = ("h", "F", "", None, 0, True)
NO_PLACES = (-1, FAR + 1, None, True, False, "3")


def joined(one, other, choose):
    rows = {}
    for word in one:
        pairs = zip(one[word], other[word])
        rows[word] = [None if x is None or y is None else choose(x, y) for x, y in pairs]
    return rows


class Joined(unittest.TestCase):
    def test_small_programs_place_by_place(self):
        chance = chance_of(31)
        for _ in range(600):
            one, other = [some_outcomes(chance, WORDS, 10, refused=0.2) for _ in range(2)]
            both, either = program_of(one) & program_of(other), program_of(one) | program_of(other)
            self.assertEqual(outcomes_of(both), joined(one, other, min))
            self.assertEqual(outcomes_of(either), joined(one, other, max))
            self.assertTrue(both == program_of(joined(one, other, min)))
            self.assertTrue(either == program_of(joined(one, other, max)))

    def test_what_both_keep_both_results_keep(self):
        chance = chance_of(32)
        kept = 0
        for _ in range(3000):
            one, other = [some_outcomes(chance, WORDS, 4, refused=chance.choice((0.1, 0.5))) for _ in range(2)]
            clause = some_clause(chance, WORDS, 4)
            if broken(clause, one) or broken(clause, other):
                continue
            kept += 1
            self.assertTrue((program_of(one) & program_of(other)).keeps([clause]))
            self.assertTrue((program_of(one) | program_of(other)).keeps([clause]))
        self.assertGreater(kept, 400)

    def test_large_programs_at_the_ends_of_pieces(self):
        at = FAR // 3
        one = Program(FAR, {"f": [(0, at, Line(1, 0)), (at + 1, FAR, None)]})
        other = Program(FAR, {"f": [(0, 4, None), (5, FAR, Line(-1, 1001))]})
        wanted = [(0, 4, None), (5, 500, Line(1, 0)), (501, at, Line(-1, 1001)), (at + 1, FAR, None)]
        self.assertTrue((one & other).pieces("f") == wanted)
        wanted = [(0, 4, None), (5, 500, Line(-1, 1001)), (501, at, Line(1, 0)), (at + 1, FAR, None)]
        self.assertTrue((one | other).pieces("f") == wanted)

    def test_other_shapes(self):
        one = Program(9, {"f": [(0, 9, None)]})
        others = [Program(8, {"f": [(0, 8, None)]}), Program(9, {"g": [(0, 9, None)]})]
        others.append(Program(9, {"f": [(0, 9, None)], "g": [(0, 9, None)]}))
        for other in others:
            for action in (lambda: one & other, lambda: one | other, lambda: other & one, lambda: first_difference(one, other)):
                self.assertRaises(OtherShape, action)

    def test_the_elder_programs_stay(self):
        one = Program(9, {"f": [(0, 9, Line(1, 0))]})
        other = Program(9, {"f": [(0, 9, Line(-1, 9))]})
        for action in (lambda: one & other, lambda: one | other, one.negated, one.mirrored, lambda: one.times(3)):
            action()
            one.changed("f", 2, 3, None)
        self.assertTrue(one.pieces("f") == [(0, 9, Line(1, 0))])
        self.assertTrue(other.pieces("f") == [(0, 9, Line(-1, 9))])


class Changed(unittest.TestCase):
    def test_small_programs_place_by_place(self):
        chance = chance_of(33)
        for _ in range(1500):
            last = chance.randint(0, 9)
            outcomes = some_outcomes(chance, WORDS, last)
            first = chance.choice((0, chance.randint(0, last)))
            end = chance.choice((last, first, chance.randint(first, last)))
            line = chance.choice((None, Line(0, 3), Line(2, -5), Line(-1, 1)))
            wanted = {word: list(row) for word, row in outcomes.items()}
            wanted["g"][first:end + 1] = [None if line is None else line(x) for x in range(first, end + 1)]
            changed = program_of(outcomes).changed("g", first, end, line)
            self.assertEqual(outcomes_of(changed), wanted)
            self.assertTrue(changed == program_of(wanted))

    def test_large_programs(self):
        one = Program(FAR, {"f": [(0, 9, None), (10, FAR, Line(1, 0))]})
        changed = one.changed("f", 5, FAR - 1, Line(0, 4))
        self.assertTrue(changed.pieces("f") == [(0, 4, None), (5, FAR - 1, Line(0, 4)), (FAR, FAR, Line(0, FAR))])
        self.assertTrue(one.changed("f", 0, FAR, None).pieces("f") == [(0, FAR, None)])
        self.assertTrue(one.changed("f", FAR, FAR, Line(5, 5 - 5 * FAR)).pieces("f")[-1] == (FAR, FAR, Line(0, 5)))

    def test_errors_in_order(self):
        one = Program(9, {"f": [(0, 9, None)]})
        for function in NO_FUNCTIONS:
            for first, end in ((0, 0), (None, 3), (10, -1)):
                with self.assertRaises(NoFunction) as caught:
                    one.changed(function, first, end, None)
                self.assertIs(caught.exception.function, function)
        for first in NO_PLACES + (10, 11):
            for end in (9, None, -1):
                with self.assertRaises(NoPlace) as caught:
                    one.changed("f", first, end, None)
                self.assertIs(caught.exception.place, first)
        for first, ends in ((4, NO_PLACES + (3, 0, 10)), (9, (8, 10)), (0, (10, -1))):
            for end in ends:
                with self.assertRaises(NoPlace) as caught:
                    one.changed("f", first, end, None)
                self.assertIs(caught.exception.place, end)


class Turned(unittest.TestCase):
    def test_small_programs_place_by_place(self):
        chance = chance_of(34)
        for _ in range(400):
            outcomes = some_outcomes(chance, WORDS, chance.randint(0, 9))
            one = program_of(outcomes)
            negated = {word: [None if y is None else -y for y in row] for word, row in outcomes.items()}
            many = {word: [None if y is None else 3 * y for y in row] for word, row in outcomes.items()}
            self.assertEqual(outcomes_of(one.negated()), negated)
            self.assertEqual(outcomes_of(one.times(3)), many)
            self.assertEqual(outcomes_of(one.mirrored()), {word: row[::-1] for word, row in outcomes.items()})
            self.assertTrue(one.negated().negated() == one and one.times(1) == one and one.mirrored().mirrored() == one)
            self.assertTrue(one.mirrored() == program_of({word: row[::-1] for word, row in outcomes.items()}))

    def test_large_programs(self):
        one = Program(FAR, {"f": [(0, 9, None), (10, FAR, Line(2, 1))]})
        self.assertTrue(one.mirrored().pieces("f") == [(0, FAR - 10, Line(-2, 2 * FAR + 1)), (FAR - 9, FAR, None)])
        self.assertTrue(one.times(BIG).pieces("f") == [(0, 9, None), (10, FAR, Line(2 * BIG, BIG))])
        self.assertTrue(one.negated().pieces("f") == [(0, 9, None), (10, FAR, Line(-2, -1))])

    def test_wrong_factors(self):
        one = Program(9, {"f": [(0, 9, Line(1, 0))]})
        for value in any_values():
            if isinstance(value, bool) or not isinstance(value, int) or value < 1:
                with self.assertRaises(BadFactor) as caught:
                    one.times(value)
                self.assertIs(caught.exception.factor, value)


class FirstDifference(unittest.TestCase):
    def test_small_programs_place_by_place(self):
        chance = chance_of(35)
        for _ in range(1500):
            one = some_outcomes(chance, ("f", "g", "h"), 9)
            other = {word: list(row) for word, row in one.items()}
            for _ in range(chance.randint(0, 3)):
                other[chance.choice("fgh")][chance.randint(0, 9)] = chance.choice((None, 0, 1, 2))
            differ = [(x, word) for x in range(10) for word in "fgh" if one[word][x] != other[word][x]]
            wanted = differ[0] if differ else None
            self.assertEqual(first_difference(program_of(one), program_of(other)), wanted)
            self.assertEqual(first_difference(program_of(other), program_of(one)), wanted)

    def test_large_programs(self):
        one = Program(FAR, {"f": [(0, FAR, Line(1, 0))], "g": [(0, FAR, None)]})
        self.assertIsNone(first_difference(one, Program(FAR, {"g": [(0, FAR, None)], "f": [(0, 7, Line(1, 0)), (8, FAR, Line(1, 0))]})))
        self.assertEqual(first_difference(one, one.changed("f", 7, FAR, Line(2, -7))), (8, "f"))
        self.assertEqual(first_difference(one, one.changed("f", FAR, FAR, Line(0, 1))), (FAR, "f"))
        self.assertEqual(first_difference(one, one.changed("g", FAR, FAR, Line(0, 1))), (FAR, "g"))
        both = one.changed("g", 5, 6, Line(0, 1)).changed("f", 5, 9, None)
        self.assertEqual(first_difference(one, both), (5, "f"))


class Mined(unittest.TestCase):
    def spoken(self, clause, outcomes):
        """The numbers of which a clause speaks in one program, without its height."""
        numbers = []
        for x in speaks_of(clause):
            beyond = 1 if clause.kind == "step" else 0
            row = outcomes[clause.function]
            beside = outcomes[clause.other] if clause.kind == "pair" else row
            if x + beyond < len(row) and row[x + beyond] is not None and beside[x] is not None:
                less = {"bound": 0, "pair": beside[x], "step": row[x]}[clause.kind]
                numbers.append(row[x + beyond] - less - (0 if clause.kind == "step" else clause.slope * x))
        return numbers

    def clause(self, kind, places, sign, slope, height):
        if kind == "bound":
            return Bound("f", places, sign, slope, height)
        return Pair("f", places, sign, "g", slope, height) if kind == "pair" else Step("f", places, sign, height)

    def test_against_a_plain_search(self):
        chance = chance_of(36)
        nothing = 0
        for _ in range(2500):
            kind, sign, slope = chance.choice(("bound", "pair", "step")), chance.choice(("<=", ">=")), chance.randint(-2, 2)
            rows = [some_outcomes(chance, WORDS, 7, refused=0.4) for _ in range(chance.randint(1, 3))]
            places = some_places(chance, 7, beyond=2)
            clause = self.clause(kind, places, sign, slope, chance.choice((0, 99, -99)))
            numbers = [number for outcomes in rows for number in self.spoken(clause, outcomes)]
            found = mined([program_of(outcomes) for outcomes in rows], clause)
            if not numbers:
                nothing += 1
                self.assertIsNone(found)
                continue
            height = max(numbers) if sign == "<=" else min(numbers)
            self.assertTrue(found == self.clause(kind, places, sign, slope, height))
            self.assertTrue(all(program_of(outcomes).keeps([found]) for outcomes in rows))
            stronger = self.clause(kind, places, sign, slope, height - (1 if sign == "<=" else -1))
            self.assertFalse(all(program_of(outcomes).keeps([stronger]) for outcomes in rows))
        self.assertGreater(nothing, 200)

    def test_the_example_of_the_document(self):
        one = Program(9, {"f": [(0, 3, Line(1, 0)), (4, 4, None), (5, 9, Line(0, 5))], "g": [(0, 9, Line(0, 2))]})
        self.assertEqual(mined([one], Bound("f", Places([(0, 9)]), "<=", 1, 99)).text(), "bound f 0-9 <= x")

    def test_large_programs(self):
        at = FAR // 9
        one = Program(FAR, {"f": [(0, at, Line(3, 1)), (at + 1, FAR, Line(-2, 7))], "g": [(0, FAR, Line(3, 0))]})
        every = Places([(0, FAR)])
        self.assertEqual(mined([one], Bound("f", every, "<=", 0, 0)).height, 3 * at + 1)
        self.assertEqual(mined([one], Bound("f", every, ">=", 0, 0)).height, 7 - 2 * FAR)
        self.assertEqual(mined([one], Pair("f", every, "<=", "g", 0, 0)).height, 1)
        self.assertEqual(mined([one], Step("f", every, ">=", 0)).height, -2 * (at + 1) + 7 - 3 * at - 1)
        self.assertEqual(mined((one, one.negated()), Step("f", every, "<=", 0)).height, 5 * at - 4)

    def test_errors_in_order(self):
        rows = [(0, 9, None)]
        one = Program(9, {"f": rows})
        shapes = [[one, Program(9, {"g": rows})], [one, one, Program(8, {"f": [(0, 8, None)]})], [one, Program(9, {"f": rows, "g": rows})], []]
        places = Places([(0, 9)])
        kinds = [Answers("f", places), Refuses("f", places), Needs("g", places, "f"), Spreads("f", places, "up")]
        kinds += [Bound("f", places, "=", 0, 0), Pair("z", places, "=", "f", 0, 0), Step("z", places, "=", 0)]
        good = Bound("f", places, "<=", 0, 0)
        for programs in shapes:
            for clause in kinds + [good, Bound("z", places, "<=", 0, 0)]:
                self.assertRaises(OtherShape, mined, programs, clause)
        for clause in kinds:
            self.assertRaises(BadKind, mined, [one, one], clause)
        for clause in (Bound("g", places, "<=", 0, 0), Pair("g", places, "<=", "h", 0, 0), Pair("f", places, ">=", "g", 0, 0)):
            with self.assertRaises(NoFunction) as caught:
                mined([one], clause)
            self.assertEqual(caught.exception.function, "g")
        self.assertIsNone(mined([one], good))
        self.assertTrue(kept_at(good, {"f": [None] * 10}, 3))


if __name__ == "__main__":
    unittest.main()
