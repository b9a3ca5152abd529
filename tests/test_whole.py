"""Over the whole program: what must stay, or turn alike, when worlds are told, cut, turned and joined otherwise."""

import unittest

from openranges.claims import asks, holds
from openranges.clauses import Answers, Bound, Pair, Spreads, Step
from openranges.editions import needless, within
from openranges.errors import Impossible
from openranges.ladders import can_answer
from openranges.margin import margin, tight
from openranges.places import Places
from openranges.programs import mined
from openranges.ranges import fixed, is_table, range_at, status, table
from openranges.rules import Rules
from openranges.specs import Spec
from openranges.strongest import strongest
from openranges.talks import Talk
from openranges.texts import read_spec, write_spec
from tests import turned
from tests.large import FUNCTIONS, free_clause, read_off, some_large, some_program, some_stretches
from tests.plain import chance_of, program_of, some_clause, some_outcomes
from tests.test_ranges import possible_worlds
from tests.test_ranges_large import cases
from tests.test_specs import filled
from tests.test_talks import spec_of
from tests.values import FAR


def worlds(seed, small, large):
    """Possible rules, small ones and large ones."""
    for chance, rules, _ in possible_worlds(seed, small):
        yield chance, rules, some_clause(chance, rules.functions, rules.last, most=5)
    for chance, _, rules in cases(seed, large, (4, 10)):
        yield chance, rules, free_clause(chance, rules)


class Cut(unittest.TestCase):
    def test_clauses_cut_at_a_place_into_two(self):
        for chance, rules, claim in worlds(311, 150, 20):
            at = chance.randint(0, rules.last)
            told = [half for clause in rules.told[:30] for half in turned.cut_at(clause, at)]
            elder = Rules(rules.functions, rules.last, rules.told[:30])
            other = Rules(rules.functions, rules.last, told)
            for f in rules.functions:
                self.assertTrue(is_table(other, f, table(elder, f)))
            for part in (claim, *turned.cut_at(claim, at)):
                self.assertTrue(holds(other, part) == holds(elder, part))
            ahead, behind = turned.cut_at(claim, at)
            self.assertTrue(holds(other, ahead) | holds(other, behind) == holds(elder, claim))


class Added(unittest.TestCase):
    def test_a_claim_that_holds_changes_nothing(self):
        many = 0
        for chance, rules, claim in worlds(312, 400, 60):
            if len(rules.told) > 11:
                continue
            spec = spec_of(rules)
            places = holds(rules, claim)
            if claim.kind in ("spreads", "step"):
                # Only places that stand side by side tell something of x.
                places = Places([(first, last + 1) for first, last in places.stretches])
                places = places if places.inner() == holds(rules, claim) else Places()
            spec["claim"] = turned.with_places(claim, places)
            many += bool(places)
            self.assertTrue(within(spec_of(rules), spec))
            self.assertIn("claim", needless(spec))
            for f in rules.functions:
                self.assertTrue(is_table(spec.rules, f, table(rules, f)))
        self.assertGreater(many, 50)

    def test_a_claim_that_does_not_hold_changes_something(self):
        many = 0
        for chance, rules, claim in worlds(313, 250, 20):
            if len(rules.told) > 11 or claim.kind not in ("answers", "refuses", "bound"):
                continue
            spec = spec_of(rules)
            spec["claim"] = claim
            if holds(rules, claim) == asks(rules, claim):
                continue
            many += 1
            self.assertFalse(within(spec_of(rules), spec))
            if not can_answer(spec.rules, []):
                self.assertRaises(Impossible, table, spec.rules, claim.function)
                continue
            self.assertFalse(is_table(spec.rules, claim.function, table(rules, claim.function)))
        self.assertGreater(many, 40)


class Turned(unittest.TestCase):
    def test_worlds_turned_give_the_turned_answers(self):
        for chance, rules, claim in worlds(314, 120, 20):
            spec = spec_of(Rules(rules.functions, rules.last, rules.told[:12]))
            factor = chance.choice((1, 2, 10 ** 12))
            rules, f = spec.rules, claim.function
            pieces = table(rules, f)
            here = holds(rules, claim)
            for other, told, question, wanted in (
                (spec.negated(), turned.table_negated(pieces), claim.negated(), here),
                (spec.times(factor), turned.table_multiplied(pieces, factor), claim.times(factor), here),
                (spec.mirrored(), turned.table_mirrored(pieces, rules.last), claim.mirrored(rules.last), self.mirrored(claim, here, rules.last)),
            ):
                self.assertTrue(is_table(other.rules, f, told))
                self.assertTrue(holds(other.rules, question) == wanted, (claim.text(), rules.told))
            self.assertTrue(fixed(spec.mirrored().rules, f) == fixed(rules, f).mirrored(rules.last))
            self.assertEqual(margin(spec.negated().rules), margin(rules))
            self.assertEqual(tight(spec.mirrored().rules), tight(rules))

    def mirrored(self, claim, places, last):
        """Where the mirrored claim holds: what was told of x and x + 1 is told of last - x - 1 then."""
        by = -1 if claim.kind in ("spreads", "step") else 0
        return places.mirrored(last).shifted(by)

    def test_talks_turned(self):
        for chance, rules, _ in worlds(315, 60, 8):
            spec = spec_of(Rules(rules.functions, rules.last, rules.told[:12]))
            talks = [Talk(spec), Talk(spec.negated()), Talk(spec.mirrored())]
            for _ in range(6):
                f, x = chance.choice(rules.functions), chance.randint(0, rules.last)
                calls = [(f, x), (f, x), (f, rules.last - x)]
                ends = talks[0].range_at(f, x)
                self.assertEqual({talk.status(*call) for talk, call in zip(talks, calls)}, {talks[0].status(f, x)})
                self.assertEqual(talks[2].range_at(*calls[2]), ends)
                if ends is None or (f, x) in [fact[:2] for fact in talks[0].facts]:
                    continue
                low, high = ends
                self.assertEqual(talks[1].range_at(f, x), (None if high is None else -high, None if low is None else -low))
                value = low if low is not None else high if high is not None else 3
                for talk, call, outcome in zip(talks, calls, (value, -value, value)):
                    talk.answer(*call, outcome)


class Joined(unittest.TestCase):
    def test_specifications_over_other_functions(self):
        chance = chance_of(316)
        for _ in range(30):
            last = chance.choice((9, FAR))
            parts = []
            for f in ("f", "g"):
                told = [clause for clause in some_large(chance, 8, (f,), last)[1].told]
                parts.append(filled([(f"{f}{at}", clause) for at, clause in enumerate(told[:6])], ("f", "g", "h"), last))
            one, other = parts
            both = one.joined(other)
            self.assertTrue(is_table(both.rules, "f", table(one.rules, "f")))
            self.assertTrue(is_table(both.rules, "g", table(other.rules, "g")))
            self.assertTrue(is_table(both.rules, "h", [(0, last, "open", None, None)]))
            self.assertTrue(within(both, one) and within(both, other))

    def test_what_is_impossible_in_one_is_so_in_both(self):
        every = Places([(0, 9)])
        one = filled([("a", Answers("f", every)), ("b", Step("f", every, ">=", 1)), ("c", Bound("f", every, "=", 0, 3))])
        other = filled([("d", Answers("g", every))])
        self.assertRaises(Impossible, table, one.joined(other).rules, "g")
        self.assertEqual(status(other.rules, "g", 0), "answers")


class Mined(unittest.TestCase):
    def shapes(self, chance, functions, last):
        f, *others = chance.sample(list(functions), len(functions))
        places = some_stretches(chance, [0, last, *[chance.randint(0, last) for _ in range(4)]])
        sign, slope = chance.choice(("<=", ">=")), chance.randint(-2, 2)
        made = [Bound(f, places, sign, slope, 0), Step(f, places, sign, 0)]
        return made + ([Pair(f, places, sign, others[0], slope, 0)] if others else [])

    def two_programs(self, chance):
        functions = FUNCTIONS[:chance.randint(1, 3)]
        if chance.random() < 0.5:
            return [some_program(chance, functions, FAR) for _ in range(2)]
        return [program_of(some_outcomes(chance, functions, 9)) for _ in range(2)]

    def test_mined_clauses_of_two_programs(self):
        chance = chance_of(317)
        for _ in range(60):
            programs = self.two_programs(chance)
            functions, last = programs[0].functions, programs[0].last
            found = [mined(programs, shape) for _ in range(6) for shape in self.shapes(chance, functions, last)]
            for f in functions:
                found.append(Answers(f, programs[0].answered(f) & programs[1].answered(f)))
                found.append(read_off(chance, programs[0], some_stretches(chance, [0, last, last // 2])))
            told = [clause for clause in found if clause is not None and programs[0].keeps([clause]) and programs[1].keeps([clause])]
            spec = spec_of(Rules(functions, last, chance.sample(told, min(12, len(told)))))
            for f in functions:
                for x in [chance.randint(0, last) for _ in range(4)]:
                    self.held_by(programs, spec.rules, f, x)
            for shape in self.shapes(chance, functions, last):
                self.held_by_strongest(programs, spec.rules, shape)
            lesser, greater = programs[0] & programs[1], programs[0] | programs[1]
            numbers = [clause for clause in spec.rules.told if clause.kind in ("bound", "pair", "step")]
            self.assertTrue(lesser.keeps(numbers) and greater.keeps(numbers))

    def held_by(self, programs, rules, f, x):
        name, ends = status(rules, f, x), range_at(rules, f, x)
        for program in programs:
            answer = program(f, x)
            if answer is None:
                self.assertNotEqual(name, "answers")
            else:
                low, high = ends
                self.assertTrue((low is None or low <= answer) and (high is None or answer <= high))

    def held_by_strongest(self, programs, rules, shape):
        told, height, _ = strongest(rules, shape)
        strong = mined(programs, shape)
        if strong is None:
            return
        self.assertNotEqual(told, "all")
        if told == "number":
            self.assertTrue(strong.height <= height if shape.sign == "<=" else strong.height >= height)


class Texts(unittest.TestCase):
    def test_what_was_written_and_read_says_the_same(self):
        for chance, rules, claim in worlds(318, 60, 10):
            spec = spec_of(Rules(rules.functions, rules.last, rules.told[:12]))
            again = read_spec(write_spec(spec))
            self.assertTrue(within(spec, again) and within(again, spec))
            self.assertTrue(table(again.rules, claim.function) == table(spec.rules, claim.function))

    def test_a_trial_that_asks(self):
        spec = Spec(["f"], FAR)
        every = Places([(0, FAR)])
        spec["a"] = Answers("f", every)
        spec["b"] = Bound("f", every, ">=", 1, 0)

        def with_an_upper_bound(given):
            given["c"] = Bound("f", every, "<=", 1, 5)
            return margin(given.rules), range_at(given.rules, "f", 7)

        self.assertEqual(spec.trial(with_an_upper_bound), (2, (7, 12)))
        self.assertEqual((margin(spec.rules), range_at(spec.rules, "f", 7)), (None, (7, None)))

    def test_no_spreads_beyond_the_last_place(self):
        rules = Rules(["f"], FAR, [Spreads("f", Places([(0, FAR)]), "up"), Step("f", Places([(0, FAR)]), ">=", 1)])
        self.assertEqual((status(rules, "f", FAR), range_at(rules, "f", FAR)), ("open", (None, None)))


if __name__ == "__main__":
    unittest.main()
