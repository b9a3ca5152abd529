"""Point 22 in large worlds: talks that tell the outcomes of a program, or any that may be told, to the end."""

import unittest

from openranges.errors import NotLet
from openranges.places import Places
from openranges.talks import Talk
from tests.large import FUNCTIONS, some_large, with_bounds
from tests.plain import chance_of
from tests.test_talks import number_within, spec_of
from tests.values import FAR


def cases(seed, many):
    """Programs, and specifications of twelve clauses at most that they keep."""
    chance = chance_of(seed)
    for _ in range(many):
        program, rules = some_large(chance, chance.choice((3, 6)), FUNCTIONS[:chance.randint(1, 3)])
        spec = spec_of(with_bounds(chance, program, rules, 0.5))
        yield chance, program, spec


def some_calls(chance, spec, many):
    """Different calls: at the ends of clauses, beside them, and anywhere."""
    last = spec.rules.last
    ends = [end for _, clause in spec.entries for stretch in clause.places.stretches for end in stretch]
    near = [end + by for end in [0, last, *ends] for by in (-1, 0, 1) if 0 <= end + by <= last]
    calls = {(chance.choice(spec.rules.functions), chance.choice((chance.choice(near), chance.randint(0, last)))) for _ in range(many)}
    calls = sorted(calls)
    chance.shuffle(calls)
    return calls[:24]


class Programs(unittest.TestCase):
    def test_the_outcomes_of_a_program_in_any_order(self):
        found = {"answered": 0, "refused": 0}
        for chance, program, spec in cases(291, 40):
            talk = Talk(spec)
            for f, x in some_calls(chance, spec, chance.choice((6, 24))):
                outcome = program(f, x)
                if outcome is None:
                    self.assertNotEqual(talk.status(f, x), "answers")
                    talk.refuse(f, x)
                    found["refused"] += 1
                else:
                    low, high = talk.range_at(f, x)
                    self.assertTrue((low is None or low <= outcome) and (high is None or outcome <= high))
                    talk.answer(f, x, outcome)
                    found["answered"] += 1
            self.ended(talk, spec)
        self.assertGreater(min(found.values()), 80, found)

    def ended(self, talk, spec):
        program = talk.finish()
        self.assertTrue(program.keeps(spec.rules.told))
        for f, x, outcome in talk.facts:
            self.assertEqual(program(f, x), outcome)

    def test_any_outcomes_that_may_be_told(self):
        found = {"answered": 0, "refused": 0, "beside": 0}
        for chance, _, spec in cases(292, 40):
            talk = Talk(spec)
            way, refusing = chance.choice((0, 1, None)), chance.random()
            for f, x in some_calls(chance, spec, chance.choice((6, 24))):
                name, ends = talk.status(f, x), talk.range_at(f, x)
                if name == "refuses" or (name == "open" and chance.random() < refusing):
                    talk.refuse(f, x)
                    found["refused"] += 1
                    continue
                for value in (ends[0] if ends[0] is None else ends[0] - 1, ends[1] if ends[1] is None else ends[1] + 1):
                    if value is not None:
                        self.assertRaises(NotLet, talk.answer, f, x, value)
                        found["beside"] += 1
                talk.answer(f, x, number_within(chance, ends, way))
                found["answered"] += 1
            self.ended(talk, spec)
        self.assertGreater(min(found.values()), 40, found)

    def test_facts_taken_back_and_told_in_another_order(self):
        for chance, program, spec in cases(293, 15):
            talk = Talk(spec)
            calls = some_calls(chance, spec, 10)
            asked = [(chance.choice(spec.rules.functions), chance.randint(0, FAR)) for _ in range(6)]
            before = [(talk.status(*call), talk.range_at(*call)) for call in asked]
            seen = []
            for _ in range(2):
                for f, x in calls:
                    outcome = program(f, x)
                    talk.refuse(f, x) if outcome is None else talk.answer(f, x, outcome)
                seen.append([(talk.status(*call), talk.range_at(*call)) for call in asked])
                for _ in calls:
                    talk.undo()
                self.assertEqual([(talk.status(*call), talk.range_at(*call)) for call in asked], before)
                chance.shuffle(calls)
            self.assertEqual(seen[0], seen[1])

    def test_no_clauses(self):
        for chance, program, spec in cases(294, 3):
            free = spec.selected([])
            talk = Talk(free)
            for f, x in some_calls(chance, spec, 24):
                self.assertEqual((talk.status(f, x), talk.range_at(f, x)), ("open", (None, None)))
                talk.answer(f, x, chance.randint(-FAR, FAR))
            self.ended(talk, free)
            for f in free.rules.functions:
                self.assertTrue(talk.finish().answered(f).size() <= 24 and talk.finish().answered(f).within(Places([(0, FAR)])))


if __name__ == "__main__":
    unittest.main()
