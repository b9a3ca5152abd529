"""Point 22: talks, held against all programs of small worlds that agree with what was told."""

import unittest

from openranges.clauses import Answers, Bound, Pair, Refuses, Spreads, Step
from openranges.errors import Impossible, NoFact, NoFunction, NoPlace, NotLet, Settled, TooMany
from openranges.places import Places
from openranges.programs import Program
from openranges.ranges import range_at, status
from openranges.rules import Rules
from openranges.specs import Spec
from openranges.talks import Talk
from tests import oracle
from tests.plain import broken, chance_of, outcomes_of
from tests.refusing import Refusing
from tests.test_claims import small_worlds
from tests.values import BIG, FAR

EVERY = Places([(0, 9)])


def spec_of(rules):
    """A specification with the clauses of some rules."""
    spec = Spec(rules.functions, rules.last)
    for at, clause in enumerate(rules.told):
        spec[f"c{at}"] = clause
    return spec


def bounded_specs(chance, many, shapes):
    """Small specifications whose answers are bound, with the outcomes of all their let programs."""
    for functions, last, top in shapes:
        for _ in range(many):
            rules = oracle.bounded_rules(chance, functions, last, chance.randint(0, 5), top)
            let = oracle.all_let(rules, top)
            if let:
                yield spec_of(rules), let, top


def calls_of(rules):
    return [(f, x) for f in rules.functions for x in range(rules.last + 1)]


class Example(unittest.TestCase):
    def test_the_example_of_the_document(self):
        spec = Spec(["f"], FAR)
        spec["a"] = Answers("f", Places([(0, FAR)]))
        spec["b"] = Step("f", Places([(0, FAR)]), ">=", 1)
        spec["c"] = Bound("f", Places([(5, 5)]), "=", 0, 7)
        talk = Talk(spec)
        self.assertEqual([talk.range_at("f", 3), talk.range_at("f", 9)], [(None, 5), (11, None)])
        self.assertIsNone(talk.answer("f", 9, 12))
        self.assertEqual([talk.range_at("f", 7), talk.range_at("f", FAR) == (12 + FAR - 9, None)], [(9, 10), True])


class Plainly(unittest.TestCase):
    SHAPES = ((["f"], 3, 2), (["f", "g"], 1, 2), (["g", "f"], 2, 1), (["f", "g", "h"], 0, 3), (["f"], 4, 1))

    def check(self, talk, agreeing, calls):
        """Whether a talk tells of each call what the outcomes of all agreeing programs do."""
        for f, x in calls:
            outcomes = {told[f][x] for told in agreeing}
            answers = outcomes - {None}
            name = "refuses" if not answers else "open" if None in outcomes else "answers"
            self.assertEqual(talk.status(f, x), name)
            self.assertEqual(talk.range_at(f, x), (min(answers), max(answers)) if answers else None)

    def test_against_all_programs_to_the_end_in_any_order(self):
        chance = chance_of(281)
        ends = {"least": 0, "greatest": 0, "drawn": 0, "refused": 0}
        for spec, let, top in bounded_specs(chance, 25, self.SHAPES):
            talk = Talk(spec)
            calls = calls_of(spec.rules)
            chance.shuffle(calls)
            way = chance.choice(("least", "greatest", "drawn"))
            refusing = chance.random() < 0.5
            facts = []
            for f, x in calls:
                self.check(talk, let, calls)
                outcomes = {told[f][x] for told in let}
                answers = sorted(outcomes - {None})
                if None in outcomes and (refusing or not answers):
                    self.assertIsNone(talk.refuse(f, x))
                    outcome = None
                    ends["refused"] += 1
                else:
                    outcome = {"least": answers[0], "greatest": answers[-1], "drawn": chance.choice(answers)}[way]
                    self.assertIsNone(talk.answer(f, x, outcome))
                    ends[way] += 1
                facts.append((f, x, outcome))
                let = [told for told in let if told[f][x] == outcome]
                self.assertTrue(let)
                self.assertEqual(talk.facts, tuple(facts))
                self.assertIn(outcomes_of(talk.finish()), let)
            self.assertEqual(len(let), 1)
            self.check(talk, let, calls)
        self.assertGreater(min(ends.values()), 40, ends)

    def test_each_number_of_a_range_and_no_other_one_can_be_told(self):
        chance = chance_of(282)
        found = {True: 0, False: 0}
        for spec, let, top in bounded_specs(chance, 15, self.SHAPES):
            talk = Talk(spec)
            for f, x in calls_of(spec.rules):
                outcomes = {told[f][x] for told in let}
                for value in range(-2, top + 3):
                    if value in outcomes:
                        talk.answer(f, x, value)
                        self.assertEqual(talk.undo(), (f, x, value))
                    else:
                        with self.assertRaises(NotLet) as caught:
                            talk.answer(f, x, value)
                        self.assertEqual((caught.exception.function, caught.exception.place), (f, x))
                    found[value in outcomes] += 1
                if None in outcomes:
                    talk.refuse(f, x)
                    self.assertEqual(talk.undo(), (f, x, None))
                else:
                    self.assertRaises(NotLet, talk.refuse, f, x)
                self.assertEqual(talk.facts, ())
        self.assertGreater(min(found.values()), 500, found)

    def test_undo_restores_what_could_be_told(self):
        chance = chance_of(283)
        for spec, let, top in bounded_specs(chance, 12, self.SHAPES):
            talk = Talk(spec)
            calls = calls_of(spec.rules)
            agreeing = [let]
            for _ in range(14):
                open_calls = [call for call in calls if call not in [fact[:2] for fact in talk.facts]]
                if open_calls and chance.random() < 0.65:
                    f, x = chance.choice(open_calls)
                    outcome = chance.choice(agreeing[-1])[f][x]
                    talk.refuse(f, x) if outcome is None else talk.answer(f, x, outcome)
                    agreeing.append([told for told in agreeing[-1] if told[f][x] == outcome])
                elif len(agreeing) > 1:
                    fact = talk.facts[-1]
                    self.assertEqual(talk.undo(), fact)
                    agreeing.pop()
                else:
                    self.assertRaises(NoFact, talk.undo)
                self.check(talk, agreeing[-1], calls)


class ToTheEnd(unittest.TestCase):
    def test_no_talk_gets_stuck(self):
        found = {"answered": 0, "refused": 0}
        for chance, rules in small_worlds(284, 350, high=9, most=9):
            try:
                talk = Talk(spec_of(rules))
            except Impossible:
                self.assertFalse(oracle.World(rules).can_answer([]))
                continue
            calls = calls_of(rules)
            chance.shuffle(calls)
            refusing, way = chance.random(), chance.choice((0, 1, None))
            for f, x in calls[:24]:
                name, ends = talk.status(f, x), talk.range_at(f, x)
                self.assertEqual(ends is None, name == "refuses")
                if name == "refuses" or (name == "open" and chance.random() < refusing):
                    talk.refuse(f, x)
                    found["refused"] += 1
                else:
                    talk.answer(f, x, number_within(chance, ends, way))
                    found["answered"] += 1
            program = talk.finish()
            self.assertIs(type(program), Program)
            outcomes = outcomes_of(program)
            self.assertEqual([clause.text() for clause in rules.told if broken(clause, outcomes)], [])
            for f, x, outcome in talk.facts:
                self.assertEqual(outcomes[f][x], outcome)
        self.assertGreater(min(found.values()), 500, found)


def number_within(chance, ends, way):
    """The least (0) or the greatest (1) number of a range, if there is one, or any."""
    low, high = ends
    if way is not None and ends[way] is not None:
        return ends[way]
    if low is None and high is None:
        return chance.randint(-50, 50)
    if low is None or high is None:
        return high - chance.randint(0, 9) if low is None else low + chance.randint(0, 9)
    return chance.randint(low, high)


class Told(Refusing):
    def talk(self, *entries):
        spec = Spec(["f", "g"], 9)
        for at, clause in enumerate(entries):
            spec[f"c{at}"] = clause
        return Talk(spec)

    def test_facts(self):
        talk = self.talk()
        self.assertEqual(talk.facts, ())
        talk.answer("f", 3, BIG)
        facts = talk.facts
        talk.refuse("g", 9)
        self.assertEqual((facts, talk.facts), ((("f", 3, BIG),), (("f", 3, BIG), ("g", 9, None))))
        self.assertIs(type(talk.facts), tuple)
        self.assertEqual([talk.status("f", 3), talk.range_at("f", 3), talk.status("g", 9), talk.range_at("g", 9)],
                         ["answers", (BIG, BIG), "refuses", None])

    def test_functions_and_places_first(self):
        talk = self.talk(Refuses("f", EVERY))
        talk.refuse("f", 0)
        actions = (talk.status, talk.range_at, talk.refuse, lambda *call: talk.answer(*call, 3))
        for action in actions:
            for value in ("h", "", None, 0, 1, True, False):
                self.refused(NoFunction, value, lambda: action(value, None))
            for value in (-1, 10, FAR + 1, None, True, False, "0"):
                self.refused(NoPlace, value, lambda: action("f", value))
        self.assertEqual(talk.facts, (("f", 0, None),))

    def test_settled_ahead_of_not_let_ahead_of_too_many(self):
        spec = Spec(["f", "g"], 99)
        spec["a"] = Refuses("f", Places([(50, 99)]))
        spec["b"] = Answers("g", Places([(50, 99)]))
        spec["c"] = Bound("g", Places([(0, 99)]), ">=", 0, 0)
        talk = Talk(spec)
        for at in range(24):
            talk.answer("f", at, at) if at % 2 else talk.refuse("g", at)
        facts = talk.facts
        for f, x in (("f", 1), ("g", 0), ("f", 23)):
            for action in (talk.refuse, lambda *call: talk.answer(*call, -1), lambda *call: talk.answer(*call, x)):
                self.settled(Settled, f, x, action)
        self.settled(NotLet, "f", 50, lambda *call: talk.answer(*call, 0))
        self.settled(NotLet, "g", 30, lambda *call: talk.answer(*call, -1))
        self.settled(NotLet, "g", 60, talk.refuse)
        self.refused(TooMany, 25, lambda: talk.answer("g", 30, 0))
        self.refused(TooMany, 25, lambda: talk.refuse("g", 30))
        self.refused(TooMany, 25, lambda: talk.refuse("f", 60))
        self.assertEqual(talk.facts, facts)
        self.assertEqual(talk.undo(), ("f", 23, 23))
        talk.refuse("g", 30)
        self.assertEqual(len(talk.facts), 24)

    def settled(self, error, function, place, action):
        with self.assertRaises(error) as caught:
            action(function, place)
        self.assertIs(type(caught.exception), error)
        self.assertEqual((caught.exception.function, caught.exception.place), (function, place))

    def test_twelve_clauses_and_twenty_four_answers(self):
        spec = Spec(["f"], FAR)
        for at in range(12):
            spec[f"c{at}"] = Bound("f", Places([(0, FAR)]), "<=", at, 10 ** 40)
        talk = Talk(spec)
        for at in range(24):
            talk.answer("f", FAR - at, 7)
        self.refused(TooMany, 25, lambda: talk.answer("f", 0, 7))
        self.assertTrue(talk.finish().keeps(spec.rules.told))
        self.assertEqual([talk.undo() for _ in range(24)], [("f", FAR - at, 7) for at in range(23, -1, -1)])
        self.assertRaises(NoFact, talk.undo)

    def test_no_fact(self):
        talk = self.talk(Answers("f", EVERY))
        self.assertRaises(NoFact, talk.undo)
        talk.answer("f", 0, 1)
        talk.undo()
        self.assertRaises(NoFact, talk.undo)
        self.assertEqual(talk.facts, ())

    def test_impossible(self):
        for told in ([Answers("f", EVERY), Refuses("f", Places([(9, 9)]))], [Answers("f", EVERY), Bound("f", EVERY, "=", 1, 0), Step("f", EVERY, "<=", 0)]):
            self.assertRaises(Impossible, self.talk, *told)

    def test_what_answers_bring(self):
        talk = self.talk(Spreads("f", EVERY, "up"), Pair("g", EVERY, "=", "f", 0, 1), Step("f", EVERY, ">=", 2))
        self.assertEqual(talk.status("f", 5), "open")
        talk.answer("f", 3, 10)
        self.assertEqual([talk.status("f", x) for x in (2, 3, 9)], ["open", "answers", "answers"])
        self.assertEqual([talk.range_at("f", 5), talk.range_at("g", 5), talk.range_at("f", 2)], [(14, None), (15, None), (None, 8)])
        talk.answer("g", 7, 30)
        self.assertEqual([talk.range_at("f", 5), talk.range_at("f", 7), talk.range_at("f", 9)], [(14, 25), (29, 29), (33, None)])
        talk.refuse("f", 2)
        self.assertEqual([talk.status("f", x) for x in (0, 1, 2)], ["refuses"] * 3)
        self.assertRaises(NotLet, talk.refuse, "f", 9)


class Apart(unittest.TestCase):
    def test_a_specification_that_is_changed_behind(self):
        spec = Spec(["f"], 9)
        spec["a"] = Answers("f", EVERY)
        talk = Talk(spec)
        spec["a"] = Refuses("f", EVERY)
        spec["b"] = Bound("f", EVERY, "<=", 0, 3)
        self.assertEqual((talk.status("f", 0), talk.range_at("f", 0)), ("answers", (None, None)))
        talk.answer("f", 0, 99)
        spec.drop("b")
        self.assertEqual(talk.undo(), ("f", 0, 99))
        self.assertEqual((talk.status("f", 0), talk.range_at("f", 0)), ("answers", (None, None)))
        self.assertEqual(spec.trial(lambda given: given.drop("a") or Talk(given).status("f", 0)), "open")

    def test_a_talk_has_no_effect_on_the_specification(self):
        spec = Spec(["f"], 9)
        spec["a"] = Answers("f", Places([(0, 3)]))
        talk = Talk(spec)
        talk.answer("f", 0, 5)
        talk.refuse("f", 9)
        self.assertTrue(spec.entries == (("a", Answers("f", Places([(0, 3)]))),))
        self.assertEqual((range_at(spec.rules, "f", 0), status(spec.rules, "f", 9)), ((None, None), "open"))

    def test_two_talks_over_one_specification(self):
        spec = Spec(["f"], 9)
        spec["a"] = Step("f", EVERY, "=", 1)
        one, other = Talk(spec), Talk(spec)
        one.answer("f", 0, 5)
        self.assertEqual((one.range_at("f", 1), other.range_at("f", 1)), ((6, 6), (None, None)))
        other.refuse("f", 0)
        other.answer("f", 2, 100)
        self.assertEqual((one.facts, other.facts), ((("f", 0, 5),), (("f", 0, None), ("f", 2, 100))))
        one.undo()
        self.assertEqual((one.range_at("f", 1), other.range_at("f", 1)), ((None, None), (99, 99)))


if __name__ == "__main__":
    unittest.main()
