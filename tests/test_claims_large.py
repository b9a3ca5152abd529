"""Point 17 in large worlds: clauses as claims, claims turned, and programs from which clauses were read off."""

import unittest

from openranges.claims import against, asks, derivation, holds, is_derivation
from openranges.errors import Impossible
from openranges.ladders import can_answer, cheapest
from openranges.musts import musts
from openranges.places import Places
from openranges.rules import Rules
from tests.large import FUNCTIONS, free_clause, read_off, some_large, some_stretches
from tests.plain import chance_of
from tests.turned import with_sign
from tests.values import FAR


def cases(seed, many, sizes=(4, 10, 25)):
    chance = chance_of(seed)
    for _ in range(many):
        program, rules = some_large(chance, chance.choice(sizes), FUNCTIONS[:chance.randint(1, 3)])
        yield chance, program, rules


def kept(rules, claim, x):
    """Whether every let program keeps a claim at one x, by what the other modules say of this x."""
    f = claim.function
    if claim.kind == "answers":
        return x in musts(rules)[f]
    if claim.kind == "refuses":
        return not can_answer(rules, [(f, x)])
    if claim.kind == "needs":
        return not can_answer(rules, [(claim.other, x)]) or x in musts(rules, asked=[(claim.other, x)])[f]
    if claim.kind == "spreads":
        source, wanted = (x, x + 1) if claim.way == "up" else (x + 1, x)
        return not can_answer(rules, [(f, source)]) or wanted in musts(rules, asked=[(f, source)])[f]
    if claim.kind == "step":
        start, goal, number = (f, x), (f, x + 1), claim.height
    else:
        start = (claim.other, x) if claim.kind == "pair" else None
        goal, number = (f, x), claim.slope * x + claim.height
    try:
        ends = [(cheapest(rules, start, goal), number), (cheapest(rules, goal, start), -number)]
    except Impossible:
        return True
    shown = [found is not None and found[0] <= most for found, most in ends]
    return {"<=": shown[0], ">=": shown[1], "=": all(shown)}[claim.sign]


def places_to_try(chance, rules, claim, places):
    """Some x of which a claim says something: at and beside the ends of where it holds, and of the clauses."""
    among = asks(rules, claim)
    stretches = [*places.stretches[:6], *(among - places).stretches[:6]]
    for clause in rules.told[:5]:
        stretches.extend(clause.places.stretches)
    found = {chance.randint(first, last) for first, last in stretches}
    for first, last in stretches:
        found |= {first - 1, first, first + 1, last - 1, last, last + 1}
    found = sorted(x for x in found if x in among)
    return chance.sample(found, min(len(found), 15))


class Large(unittest.TestCase):
    def test_each_kind_at_single_places(self):
        found = {}
        chance = chance_of(98)
        for _ in range(150):
            functions = FUNCTIONS[:chance.randint(1, 3)]
            last = chance.choice((FAR, 60, 10 ** 6))
            program, rules = some_large(chance, chance.choice((3, 6, 12)), functions, last)
            if chance.random() < 0.3:
                rules = Rules(functions, last, [*rules.told, free_clause(chance, rules)])
            for _ in range(3):
                claim = free_clause(chance, rules)
                if chance.random() < 0.5:
                    claim = read_off(chance, program, some_stretches(chance, [0, last, last // 3, last // 2])) or claim
                places = holds(rules, claim)
                for x in places_to_try(chance, rules, claim, places) if can_answer(rules, []) else []:
                    wanted = kept(rules, claim, x)
                    self.assertEqual(x in places, wanted, (rules.told, claim.text(), x))
                    found[(claim.kind, wanted)] = found.get((claim.kind, wanted), 0) + 1
        self.assertEqual(len(found), 14)
        self.assertGreater(min(found.values()), 30)

    def test_clauses_of_the_rules_hold_as_claims(self):
        for chance, _, rules in cases(91, 60):
            for clause in chance.sample(rules.told, min(5, len(rules.told))):
                self.assertTrue(holds(rules, clause) == asks(rules, clause), clause.text())
                self.assertIsNone(against(rules, clause))

    def test_a_let_program_keeps_every_claim_where_it_holds(self):
        some = 0
        for chance, program, rules in cases(92, 80):
            calls = []
            for f in rules.functions:
                answered = program.answered(f)
                calls += [(f, answered[chance.randrange(answered.size())]) for _ in range(3) if answered]
            self.assertTrue(can_answer(rules, calls))
            for _ in range(6):
                claim = free_clause(chance, rules)
                places = holds(rules, claim)
                self.assertEqual((places & program.breaches(claim)).text(), "none")
                some += bool(places)
        self.assertGreater(some, 60)

    def test_programs_against_and_derivations(self):
        found = [0, 0]
        for chance, program, rules in cases(93, 80):
            for _ in range(4):
                claim = free_clause(chance, rules)
                if chance.random() < 0.4:
                    claim = read_off(chance, program, some_stretches(chance, [0, FAR, *[chance.randint(0, FAR) for _ in range(3)]])) or claim
                places = holds(rules, claim)
                parts = derivation(rules, claim)
                self.assertIs(is_derivation(rules, claim, places, parts), True)
                self.assertTrue(Places([part[:2] for part in parts]) == places)
                told = against(rules, claim)
                left = asks(rules, claim) - places
                found[told is None] += 1
                if told is None:
                    self.assertEqual(left.text(), "none")
                else:
                    self.assertEqual(told[0], left.least())
                    self.assertTrue(told[1].keeps(rules.told))
                    self.assertIn(told[0], told[1].breaches(claim))
        self.assertTrue(min(found) > 20, found)

    def test_turned_claims_hold_at_the_turned_places(self):
        for chance, _, rules in cases(94, 40, (4, 12)):
            last, functions = rules.last, rules.functions
            for _ in range(2):
                claim = free_clause(chance, rules)
                places = holds(rules, claim)
                factor = chance.choice((1, 2, 10 ** 9))
                negated = Rules(functions, last, [clause.negated() for clause in rules.told])
                self.assertTrue(holds(negated, claim.negated()) == places)
                back = Rules(functions, last, [clause.mirrored(last) for clause in rules.told])
                beyond = last - 1 if claim.kind in ("spreads", "step") else last
                wanted = places.mirrored(last) if beyond == last else places.mirrored(last).shifted(-1)
                self.assertTrue(holds(back, claim.mirrored(last)) == wanted)
                many = Rules(functions, last, [clause.times(factor) for clause in rules.told])
                self.assertTrue(holds(many, claim.times(factor)) == places)

    def test_moved_claims_hold_at_the_moved_places(self):
        chance = chance_of(95)
        for _ in range(40):
            last = 10 ** 25
            by = chance.choice((1, 7, 10 ** 24))
            _, rules = some_large(chance, chance.choice((4, 12)), last=last)
            moved = Rules(rules.functions, last + by, [clause.moved(by) for clause in rules.told])
            for _ in range(2):
                claim = free_clause(chance, rules)
                self.assertTrue(holds(moved, claim.moved(by)) == holds(rules, claim).shifted(by))

    def test_both_signs_make_the_equal_sign(self):
        for chance, program, rules in cases(96, 60):
            claims = [free_clause(chance, rules) for _ in range(6)] + [rules.told[0], rules.told[-1]]
            for claim in claims:
                if claim.kind in ("bound", "pair", "step"):
                    told = [holds(rules, with_sign(claim, sign)) for sign in ("<=", ">=", "=")]
                    self.assertTrue(told[0] & told[1] == told[2])

    def test_sixty_clauses_do_not_take_long(self):
        for chance, program, rules in cases(97, 3, (60,)):
            for _ in range(4):
                claim = free_clause(chance, rules)
                self.assertIs(is_derivation(rules, claim, holds(rules, claim), derivation(rules, claim)), True)


if __name__ == "__main__":
    unittest.main()
