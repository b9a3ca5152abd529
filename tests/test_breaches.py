"""Point 12: where a program breaks clauses, against the table of point 4."""

import unittest

from openranges.clauses import Answers, Bound, Needs, Pair, Refuses, Spreads, Step
from openranges.errors import NoFunction
from openranges.lines import Line
from openranges.places import Places
from openranges.programs import Program
from tests.plain import SIGNS, broken, chance_of, members, program_of, some_clause, some_outcomes
from tests.values import FAR

FUNCTIONS = ("f", "g", "h")
KINDS = ("answers", "refuses", "needs", "spreads", "bound", "pair", "step")


class Plainly(unittest.TestCase):
    def test_each_kind_place_by_place(self):
        chance = chance_of(21)
        for kind in KINDS:
            found = 0
            for _ in range(700):
                last = chance.randint(0, 11)
                functions = FUNCTIONS[:chance.randint(2, 3)]
                outcomes = some_outcomes(chance, functions, last, refused=chance.choice((0.1, 0.5)))
                clause = some_clause(chance, functions, last, kinds=(kind,), beyond=3)
                program = program_of(outcomes)
                wanted = broken(clause, outcomes)
                self.assertEqual(members(program.breaches(clause)), wanted, (clause.text(), outcomes))
                self.assertEqual(program.breach(clause), wanted[0] if wanted else None)
                self.assertIs(program.keeps([clause]), not wanted)
                found += bool(wanted)
            self.assertTrue(40 < found < 690, (kind, found))

    def test_keeps_lists(self):
        chance = chance_of(22)
        for _ in range(500):
            outcomes = some_outcomes(chance, FUNCTIONS, 5)
            clauses = [some_clause(chance, FUNCTIONS, 5) for _ in range(chance.randint(0, 4))]
            wanted = all(not broken(clause, outcomes) for clause in clauses)
            self.assertIs(program_of(outcomes).keeps(clauses), wanted)
            self.assertIs(program_of(outcomes).keeps(tuple(clauses)), wanted)

    def test_the_example_of_the_document(self):
        one = Program(9, {"f": [(0, 3, Line(1, 0)), (4, 4, None), (5, 9, Line(0, 5))], "g": [(0, 9, Line(0, 2))]})
        every = Places([(0, 9)])
        clauses = [Pair("f", every, "<=", "g", 0, 1), Spreads("f", every, "up")]
        clauses += [Spreads("f", every, "down"), Step("f", every, "<=", 0)]
        self.assertEqual([one.breaches(clause).text() for clause in clauses], ["5-9", "3", "4", "0-2"])


class Large(unittest.TestCase):
    def setUp(self):
        self.middle = FAR // 2
        rows = [(0, self.middle, Line(2, 0)), (self.middle + 1, self.middle + 1, None)]
        rows = rows + [(self.middle + 2, FAR, Line(-1, 3 * self.middle + 2))]
        self.program = Program(FAR, {"f": rows, "g": [(0, FAR, Line(0, self.middle))]})
        self.every = Places([(0, FAR)])

    def told(self, clause):
        return self.program.breaches(clause).text()

    def test_answers_refuses_needs(self):
        middle = self.middle
        self.assertEqual(self.told(Answers("f", self.every)), str(middle + 1))
        self.assertEqual(self.told(Refuses("f", self.every)), f"0-{middle} {middle + 2}-{FAR}")
        self.assertEqual(self.told(Needs("f", self.every, "g")), str(middle + 1))
        self.assertEqual(self.told(Needs("g", self.every, "f")), "none")

    def test_spreads_at_the_ends(self):
        middle = self.middle
        self.assertEqual(self.told(Spreads("f", self.every, "up")), str(middle))
        self.assertEqual(self.told(Spreads("f", self.every, "down")), str(middle + 1))
        self.assertEqual(self.told(Spreads("f", Places([(middle + 1, FAR)]), "up")), "none")
        self.assertEqual(self.told(Spreads("f", Places([(middle + 1, middle + 1)]), "down")), "none")

    def test_bounds_met_exactly_at_one_place_or_missed_by_one(self):
        for at in (0, 7, 10 ** 20, self.middle - 1):
            for steep in (1, 3, 10 ** 31):
                # f is 2 x here; the line meets it at one place, or passes beside it by 1 there.
                line = Line(2 + steep, -steep * at)
                places = Places([(0, self.middle)])
                for by, upto, fromhere in ((0, at - 1, at + 1), (1, at - 1, at), (-1, at, at + 1)):
                    if steep == 1 and by == 1:
                        upto = at - 2
                    if steep == 1 and by == -1:
                        fromhere = at + 2
                    below = Places([(0, upto)] if upto >= 0 else [])
                    above = Places([(fromhere, self.middle)] if fromhere <= self.middle else [])
                    told = [self.program.breaches(Bound("f", places, sign, line.slope, line.height + by)) for sign in SIGNS]
                    self.assertEqual([found.text() for found in told], [below.text(), above.text(), (below | above).text()])

    def test_pairs_that_cross_within_a_piece(self):
        middle = self.middle
        half = middle // 2
        self.assertEqual(self.told(Pair("f", self.every, "<=", "g", 0, 0)), f"{half + 1}-{middle} {middle + 2}-{FAR}")
        self.assertEqual(self.told(Pair("f", self.every, ">=", "g", 0, 0)), f"0-{half - 1}")
        self.assertEqual(self.told(Pair("f", self.every, ">=", "g", 0, 1)), f"0-{half}")
        self.assertEqual(self.told(Pair("g", self.every, "=", "f", 0, 0)), f"0-{half - 1} {half + 1}-{middle} {middle + 2}-{FAR}")

    def test_steps_within_pieces_and_at_seams(self):
        middle = self.middle
        self.assertEqual(self.told(Step("f", self.every, "<=", 1)), f"0-{middle - 1}")
        self.assertEqual(self.told(Step("f", self.every, ">=", 1)), f"{middle + 2}-{FAR - 1}")
        self.assertEqual(self.told(Step("f", Places([(middle, middle + 2)]), "=", 99)), "none")
        going = Program(FAR, {"f": [(0, middle, Line(1, 0)), (middle + 1, FAR, Line(-1, 2 * middle + 1))]})
        self.assertEqual(going.breaches(Step("f", self.every, ">=", 0)).text(), f"{middle + 1}-{FAR - 1}")
        self.assertEqual(going.breaches(Step("f", self.every, "=", 0)).text(), f"0-{middle - 1} {middle + 1}-{FAR - 1}")
        jumping = Program(FAR, {"f": [(0, middle, Line(0, 0)), (middle + 1, FAR, Line(0, 10 ** 70))]})
        self.assertEqual(jumping.breaches(Step("f", self.every, "<=", 10 ** 70 - 1)).text(), str(middle))
        self.assertEqual(jumping.breaches(Step("f", self.every, "<=", 10 ** 70)).text(), "none")
        self.assertEqual(jumping.breaches(Step("f", Places([(0, middle), (middle + 2, FAR)]), "=", 0)).text(), "none")

    def test_places_above_last_do_not_count(self):
        small = Program(5, {"f": [(0, 5, Line(1, 0))], "g": [(0, 5, None)]})
        wide = Places([(4, FAR)])
        told = [Answers("g", wide), Refuses("f", wide), Needs("g", wide, "f"), Spreads("f", wide, "up")]
        told += [Spreads("g", wide, "down"), Bound("f", wide, "=", 0, 99), Pair("f", wide, "=", "g", 0, 0), Step("f", wide, "=", 0)]
        wanted = ["4-5", "4-5", "4-5", "none", "none", "4-5", "none", "4"]
        self.assertEqual([small.breaches(clause).text() for clause in told], wanted)
        beyond = Places([(6, 9), (FAR, FAR)])
        for clause in (Answers("g", beyond), Refuses("f", beyond), Bound("f", beyond, "<=", 0, -9), Step("f", beyond, "=", 7)):
            self.assertEqual(small.breaches(clause).text(), "none")

    def test_pairs_of_places_with_one_outside(self):
        small = Program(9, {"f": [(0, 3, Line(1, 0)), (4, 9, None)]})
        for places, wanted in (([(3, 3)], "none"), ([(4, 4)], "none"), ([(3, 4)], "3"), ([(0, 3), (5, 9)], "none")):
            self.assertEqual(small.breaches(Spreads("f", Places(places), "up")).text(), wanted)
        for places, wanted in (([(1, 1)], "none"), ([(1, 1), (3, 3)], "none"), ([(1, 2)], "1"), ([(0, 1), (3, 3)], "0")):
            self.assertEqual(small.breaches(Step("f", Places(places), "=", 0)).text(), wanted)


class Functions(unittest.TestCase):
    def test_the_first_function_that_is_not_there(self):
        program = Program(5, {"f": [(0, 5, None)]})
        places = Places([(0, 5)])
        wanted = {
            "g": [Answers("g", places), Needs("g", places, "h"), Needs("f", places, "g"), Step("g", Places(), "=", 1)],
            "h": [Refuses("h", places), Pair("h", places, "=", "g", 0, 0), Pair("f", Places(), "=", "h", 0, 0)],
        }
        for function, clauses in wanted.items():
            for clause in clauses:
                for action in (program.breaches, program.breach):
                    with self.assertRaises(NoFunction) as caught:
                        action(clause)
                    self.assertEqual(caught.exception.function, function)
                for others in ([], [Refuses("f", places)], [Answers("f", places)]):
                    with self.assertRaises(NoFunction) as caught:
                        program.keeps(others + [clause, Answers("z", places)])
                    self.assertEqual(caught.exception.function, function)


if __name__ == "__main__":
    unittest.main()
