"""Point 14: what must be answered, what bars it, and rows that show it."""

import unittest

from openranges.clauses import Answers, Bound, Needs, Pair, Refuses, Spreads, Step
from openranges.errors import NoFunction, NoPlace
from openranges.musts import barred, grounds, is_grounds, musts
from openranges.places import Places
from openranges.rules import Rules
from tests import oracle
from tests.changes import as_lists, changed
from tests.large import some_large
from tests.plain import chance_of, members
from tests.refusing import Refusing
from tests.values import FAR, any_values

EVERY = Places([(0, 9)])
TOLD = [Answers("f", Places([(0, 4)])), Spreads("f", EVERY, "up"), Needs("g", Places([(2, 6)]), "f")]
TOLD += [Bound("f", EVERY, "<=", 2, 5), Step("g", Places([(2, 6)]), "<=", -1), Pair("g", Places([(2, 2)]), "<=", "f", 0, 0)]
RULES = Rules(["f", "g"], 9, TOLD)


def cases(seed, many):
    """Small worlds with nothing asked, one call, several calls, one call twice."""
    chance = chance_of(seed)
    for _ in range(many):
        functions = ["f", "g", "h"][:chance.randint(1, 3)]
        last = chance.randint(0, 11)
        rules = oracle.some_rules(chance, functions, last, chance.randint(0, 9))
        calls = [(chance.choice(functions), chance.randint(0, last)) for _ in range(3)]
        yield chance, rules, chance.choice(([], calls[:1], calls, [calls[0], calls[0]]))


class Musts(unittest.TestCase):
    def test_the_example_of_the_document(self):
        told = [musts(RULES)["f"].text(), musts(RULES)["g"].text(), barred(RULES)]
        self.assertEqual(told, ["0-9", "2-6", None])

    def test_small_worlds(self):
        for _, rules, asked in cases(41, 1500):
            have = oracle.grown(rules, asked)
            found = musts(rules, asked=asked)
            self.assertEqual(list(found), list(rules.functions))
            self.assertEqual({(f, x) for f in found for x in members(found[f])}, have)
            self.assertEqual(barred(rules, asked=tuple(asked)), oracle.barred(rules, have))

    def test_a_returned_dict_that_is_emptied(self):
        found = musts(RULES)
        found.clear()
        self.assertEqual(musts(RULES)["f"].text(), "0-9")

    def test_what_is_barred_first(self):
        every = Places([(0, 20)])
        told = [Refuses("g", Places([(5, 9)])), Refuses("f", Places([(5, 9)])), Refuses("f", Places([(4, 5)]))]
        told += [Refuses("f", Places([(5, 5)])), Answers("f", Places([(5, 20)])), Answers("g", every)]
        self.assertEqual(barred(Rules(["f", "g"], 20, told)), (1, "f", 5))
        self.assertEqual(barred(Rules(["g", "f"], 20, told)), (0, "g", 5))
        self.assertEqual(barred(Rules(["g", "f"], 20, told), asked=[("f", 4)]), (2, "f", 4))
        self.assertIsNone(barred(Rules(["g", "f"], 20, told[:4])))
        self.assertEqual(barred(Rules(["g", "f"], 20, told[:4]), asked=[("f", 5)]), (1, "f", 5))

    def test_large_worlds_are_closed(self):
        chance = chance_of(42)
        for _ in range(60):
            _, rules = some_large(chance, chance.choice((4, 12, 30)))
            asked = [(chance.choice(rules.functions), chance.randint(0, FAR)) for _ in range(chance.randint(0, 3))]
            have = musts(rules, asked=asked)
            for clause in rules.told:
                here = have[clause.function]
                if clause.kind == "answers":
                    self.assertTrue(clause.places.within(here))
                if clause.kind == "needs":
                    self.assertTrue((clause.places & have[clause.other]).within(here))
                if clause.kind == "spreads":
                    by = 1 if clause.way == "up" else -1
                    source = clause.places.inner() if by == 1 else clause.places.inner().shifted(1)
                    self.assertTrue((source & here).shifted(by).within(here))
            for f in rules.functions:
                for first, last in have[f].stretches:
                    for x in {first, last, (first + last) // 2}:
                        rows = grounds(rules, (f, x), asked=asked)
                        self.assertEqual(is_grounds(rules, (f, x), rows, asked=asked), -1)

    def test_many_steps_do_not_take_long(self):
        told = []
        for k in range(29):
            told += [Spreads("f", Places([(k * 10 ** 28, (k + 1) * 10 ** 28)]), "up")]
            told += [Needs("g", Places([(k * 10 ** 28, (k + 1) * 10 ** 28)]), "f")]
        rules = Rules(["f", "g"], FAR, told + [Answers("f", Places([(7, 7)]))])
        self.assertEqual(musts(rules)["g"].text(), f"7-{29 * 10 ** 28}")


class Grounds(unittest.TestCase):
    def test_small_worlds(self):
        for _, rules, asked in cases(43, 500):
            have = oracle.grown(rules, asked)
            for f in rules.functions:
                for x in range(rules.last + 1):
                    rows = grounds(rules, (f, x), asked=asked)
                    self.assertEqual(rows is None, (f, x) not in have)
                    if rows is not None:
                        self.assertIs(type(rows), tuple)
                        self.assertTrue(all(type(row) is tuple and type(row[3]) is tuple for row in rows))
                        self.assertEqual(oracle.first_wrong(rules, rows, asked), -1)
                        self.assertTrue(rows[-1][0] == f and rows[-1][1] <= x <= rows[-1][2])
                        self.assertEqual(is_grounds(rules, (f, x), rows, asked=asked), -1)
                        self.assertEqual(is_grounds(rules, (f, x), as_lists(rows), asked=asked), -1)

    def wanted(self, rules, call, rows, asked):
        wrong = oracle.first_wrong(rules, rows, asked)
        if wrong != -1 or not isinstance(rows, (tuple, list)):
            return wrong
        if not rows or rows[-1][0] != call[0] or not rows[-1][1] <= call[1] <= rows[-1][2]:
            return len(rows)
        return -1

    def test_rows_changed_by_one_thing(self):
        right = 0
        for chance, rules, asked in cases(44, 1200):
            have = sorted(oracle.grown(rules, asked))
            if not have:
                continue
            call = chance.choice(have)
            rows = grounds(rules, call, asked=asked)
            for _ in range(12):
                other = changed(chance, rows)
                found = is_grounds(rules, call, other, asked=asked)
                self.assertEqual(found, self.wanted(rules, call, other, asked), (rules.told, call, other))
                right += found == -1
        self.assertGreater(right, 500)

    def test_the_examples_of_the_document(self):
        rows = [("f", 0, 4, ("answers", 0)), ("f", 5, 9, ("up", 1)), ("g", 2, 6, ("needs", 2))]
        self.assertEqual([is_grounds(RULES, ("g", 5), rows), is_grounds(RULES, ("g", 7), rows)], [-1, 3])

    def test_rows_split_doubled_and_in_another_order(self):
        one, two, three = ("f", 0, 4, ("answers", 0)), ("f", 5, 9, ("up", 1)), ("g", 2, 6, ("needs", 2))
        split = [one, ("f", 5, 5, ("up", 1)), ("f", 6, 9, ("up", 1)), ("g", 2, 3, ("needs", 2)), ("g", 4, 6, ("needs", 2))]
        wanted = {
            (one, one, two, two, three): -1, tuple(split): -1, (two, one, three): 0, (one, three, two): 1,
            (one, ("f", 6, 9, ("up", 1)), three): 1, (one, two): 2, (): 0, (one, ("f", 3, 9, ("up", 1)), three): -1,
            (one, two, ("g", 1, 6, ("needs", 2))): 2, (one, two, ("g", 2, 7, ("needs", 2))): 2,
            (one, ("f", 5, 10, ("up", 1)), three): 1, (("f", 0, 5, ("answers", 0)), two, three): 0,
            (("f", 0, 4, ("answers", 1)), two, three): 0, (("f", 0, 4, ("answers", True)), two, three): 0,
            (("f", False, 4, ("answers", 0)), two, three): 0, (("f", 0, 4, ("answers", 0, 0)), two, three): 0,
        }
        for rows, index in wanted.items():
            self.assertEqual(is_grounds(RULES, ("g", 5), rows), index, rows)

    def test_asked_rows(self):
        rules = Rules(["f", "g"], 9, [Spreads("f", EVERY, "down"), Needs("g", EVERY, "f")])
        rows = [("f", 7, 7, ("asked",)), ("f", 3, 6, ("down", 0)), ("g", 4, 7, ("needs", 1))]
        self.assertEqual(is_grounds(rules, ("g", 5), rows, asked=[("f", 7)]), -1)
        self.assertEqual(is_grounds(rules, ("g", 5), rows, asked=[("g", 2), ("f", 8), ("f", 7)]), -1)
        self.assertEqual(is_grounds(rules, ("g", 5), rows, asked=[("f", 8), ("g", 7)]), 0)
        self.assertEqual(is_grounds(rules, ("f", 7), [("f", 7, 8, ("asked",))], asked=[("f", 7), ("f", 8)]), 0)
        self.assertEqual(is_grounds(rules, ("g", 3), rows, asked=[("f", 7)]), 3)

    def test_any_values(self):
        for value in any_values():
            self.assertEqual(is_grounds(RULES, ("g", 5), value), 0)
            self.assertEqual(is_grounds(RULES, ("f", 3), [("f", 0, 4, ("answers", 0)), value]), 1)
            for at in range(4):
                row = ["f", 0, 4, ("answers", 0)]
                row[at] = value
                wanted = oracle.first_wrong(RULES, [row], [])
                if wanted == 0 or row[0] == "f" and row[1] <= 1 <= row[2]:
                    self.assertEqual(is_grounds(RULES, ("f", 1), [row]), wanted, row)
            for reason in ((value,), ("answers", value), (value, 0), ("up", value), value):
                row = ("f", 3, 3, reason)
                self.assertEqual(is_grounds(RULES, ("f", 3), [row]), oracle.first_wrong(RULES, [row], []))

    def test_clauses_of_another_function_kind_and_way(self):
        told = [Answers("f", EVERY), Spreads("f", EVERY, "up"), Spreads("f", EVERY, "down"), Needs("f", EVERY, "h"), Refuses("f", EVERY)]
        told += [Bound("f", EVERY, "=", 0, 0), Step("f", EVERY, "=", 0), Pair("f", EVERY, "=", "h", 0, 0)]
        rules = Rules(["f", "g", "h"], 9, told)
        asked = [("f", 3), ("g", 3), ("f", 5), ("g", 5), ("h", 4)]
        above = [(f, x, x, ("asked",)) for f, x in asked]
        right = {"answers": 0, "up": 1, "down": 2, "needs": 3}
        for name in (*right, "refuses", "spreads", "bound", "pair", "step", "asked", "f", ""):
            for index in range(len(told)):
                for f in ("f", "g", "h"):
                    wanted = -1 if f == "f" and right.get(name) == index else 5
                    rows = above + [(f, 4, 4, (name, index))]
                    self.assertEqual(is_grounds(rules, (f, 4), rows, asked=asked), wanted, (name, index, f))

    def test_indexes_of_no_clause(self):
        for told, reason in ((Answers("f", EVERY), "answers"), (Needs("f", EVERY, "g"), "needs"), (Spreads("f", EVERY, "up"), "up")):
            rules = Rules(["f", "g"], 9, [Answers("g", EVERY), told])
            rows = [("g", 0, 9, ("answers", 0)), ("f", 3, 3, ("asked",)), ("f", 4, 4, (reason, 1))]
            self.assertEqual(is_grounds(rules, ("f", 4), rows, asked=[("f", 3)]), -1)
            for index in (-1, -2, 0, 2, 60, 10 ** 30, True, 1.0, None, "1", (1,)):
                wrong = rows[:2] + [("f", 4, 4, (reason, index))]
                self.assertEqual(is_grounds(rules, ("f", 4), wrong, asked=[("f", 3)]), 2)

    def test_spots_are_no_places_here(self):
        self.assertEqual(is_grounds(RULES, ("f", 3), [("f", ("x", 0), 4, ("answers", 0))]), 0)


class Errors(Refusing):
    def test_wrong_calls(self):
        wrong = [(NoFunction, word, (word, x)) for word in ("h", "", "F", None, 0, True) for x in (0, 99, None)]
        wrong += [(NoPlace, x, ("f", x)) for x in (10, -1, FAR, FAR + 1, None, True, "3")]
        good = ("f", 3)
        for error, value, call in wrong:
            for asked in ([call], [good, call], (good, call, ("z", None)), [call, ("z", 1)]):
                self.refused(error, value, lambda: musts(RULES, asked=asked))
                self.refused(error, value, lambda: barred(RULES, asked=asked))
                self.refused(error, value, lambda: grounds(RULES, good, asked=asked))
                self.refused(error, value, lambda: is_grounds(RULES, good, None, asked=asked))
            for asked in ([], [good], [("z", 99)], [("f", None)]):
                self.refused(error, value, lambda: grounds(RULES, call, asked=asked))
                self.refused(error, value, lambda: is_grounds(RULES, call, 5, asked=asked))


if __name__ == "__main__":
    unittest.main()
