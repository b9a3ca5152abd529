"""Point 18: statuses, ranges, tables and what is fixed, place by place in small worlds."""

import unittest

from openranges.clauses import Answers, Bound, Needs, Pair, Refuses, Spreads, Step
from openranges.errors import Impossible, NoFunction, NoPlace
from openranges.ladders import can_answer
from openranges.lines import Line
from openranges.places import Places
from openranges.ranges import fixed, greatest_program, is_table, least_program, range_at, status, table
from openranges.rules import Rules
from tests import oracle, turned
from tests.plain import chance_of, members
from tests.refusing import Refusing
from tests.test_claims import small_worlds
from tests.values import BIG, FAR

EVERY = Places([(0, 9)])
TOLD = [Answers("f", EVERY), Bound("f", EVERY, "<=", 2, 5), Bound("f", EVERY, ">=", 1, 0)]
RULES = Rules(["f", "g"], 9, TOLD + [Pair("g", EVERY, "<=", "f", 0, 1), Refuses("g", Places([(7, 9)]))])
BROKEN = Rules(["f", "g"], 9, TOLD + [Refuses("f", Places([(3, 3)]))])


def possible_worlds(seed, many):
    """Small worlds in which some program is let, with their reckoning."""
    for low, high, most, count in ((0, 9, 9, many), (12, 26, 6, many // 6)):
        for chance, rules in small_worlds(seed + low, count, low, high, most):
            world = oracle.World(rules)
            if world.can_answer([]):
                yield chance, rules, world


def crossing_worlds(seed, many):
    """Small worlds with lines over all places that cross, so that calls are refused in the midst of stretches."""
    chance = chance_of(seed)
    for _ in range(many):
        last = chance.randint(4, 16)
        every = Places([(0, last)])
        told = []
        for f in ("f", "g"):
            told += [Bound(f, every, ">=", chance.randint(-3, 3), chance.randint(-12, 6)) for _ in range(chance.randint(1, 2))]
            told += [Bound(f, every, "<=", chance.randint(-3, 3), chance.randint(-6, 12)) for _ in range(chance.randint(1, 2))]
        told += [Pair("f", every, chance.choice(("<=", ">=", "=")), "g", chance.randint(-2, 2), chance.randint(-9, 9))]
        told += [Needs("f", every, "g")] * chance.choice((0, 1)) + [Step("f", every, ">=", -1)] * chance.choice((0, 1))
        told += [Spreads("g", every, chance.choice(("up", "down")))] * chance.choice((0, 0, 1))
        rules = Rules(["f", "g"], last, told)
        yield chance, rules, oracle.World(rules)


def with_ends(chance, rules):
    """The rules with bounds on both sides at most places, so that many of them have such programs."""
    told = list(rules.told)
    for f in rules.functions:
        for sign, height in ((">=", -30), ("<=", 40)):
            first = chance.choice((0, 0, 0, chance.randint(0, rules.last)))
            told.append(Bound(f, Places([(first, rules.last)]), sign, chance.randint(-1, 1), height))
    return Rules(rules.functions, rules.last, told)


def calls_of(rules):
    return [(f, x) for f in rules.functions for x in range(rules.last + 1)]


def read(pieces, x):
    """The status and the range that pieces tell of a place."""
    (name, low, high), = [piece[2:] for piece in pieces if piece[0] <= x <= piece[1]]
    if name == "refuses":
        assert low is None and high is None
        return (name, None)
    return (name, tuple([None if line is None else line(x) for line in (low, high)]))


def told_range(told):
    """The kind of a range, so that tests see whether all kinds came about."""
    return None if told is None else tuple([end is None for end in told])


class Examples(unittest.TestCase):
    def test_the_example_of_the_document(self):
        told = [status(RULES, "f", 4), range_at(RULES, "f", 4), status(RULES, "g", 4), range_at(RULES, "g", 4), range_at(RULES, "g", 8)]
        self.assertEqual(told, ["answers", (4, 13), "open", (None, 14), None])
        told = [greatest_program(RULES)("f", 3), greatest_program(RULES)("g", 3), fixed(RULES, "g").text()]
        self.assertEqual(told, [11, None, "7-9"])

    def test_nothing_told(self):
        rules = Rules(["f", "g"], FAR, [])
        self.assertEqual((status(rules, "g", FAR), range_at(rules, "g", FAR)), ("open", (None, None)))
        self.assertTrue(is_table(rules, "f", [(0, FAR, "open", None, None)]))
        self.assertTrue(fixed(rules, "f") == Places())
        self.assertEqual(least_program(rules).pieces("f"), [(0, FAR, None)])

    def test_one_place(self):
        every = Places([(0, 0)])
        rules = Rules(["f"], 0, [Answers("f", every), Bound("f", every, "=", 5, 7), Step("f", every, "=", 3)])
        self.assertEqual((status(rules, "f", 0), range_at(rules, "f", 0)), ("answers", (7, 7)))
        self.assertTrue(is_table(rules, "f", ((0, 0, "answers", Line(9, 7), Line(0, 7)),)))
        self.assertEqual(fixed(rules, "f").text(), "0")

    def test_a_refusal_that_only_numbers_bring(self):
        told = [Bound("f", EVERY, "<=", -1, 5), Bound("f", EVERY, ">=", 0, 0), Spreads("f", EVERY, "up")]
        rules = Rules(["f"], 9, told)
        self.assertEqual([status(rules, "f", x) for x in (0, 5, 9)], ["refuses"] * 3)
        shorter = Rules(["f"], 9, told[:2])
        self.assertEqual([status(shorter, "f", x) for x in (0, 5, 6, 9)], ["open", "open", "refuses", "refuses"])
        self.assertEqual(fixed(shorter, "f").text(), "6-9")
        self.assertEqual(fixed(Rules(["f"], 9, told[:2] + [Answers("f", Places([(3, 5)]))]), "f").text(), "5-9")


class Plainly(unittest.TestCase):
    def test_status_and_range_of_every_call(self):
        found = {}
        for _, rules, world in possible_worlds(181, 500):
            for f, x in calls_of(rules):
                told = (status(rules, f, x), range_at(rules, f, x))
                self.assertEqual(told, (world.status((f, x)), world.range_at((f, x))), (f, x, rules.told))
                key = (told[0], told_range(told[1]))
                found[key] = found.get(key, 0) + 1
        # Answered and open calls each with a bound on both sides, on either side, and on none; and refused ones.
        self.assertEqual(len(found), 9)
        self.assertGreater(min(found.values()), 15)

    def test_tables(self):
        for chance, rules, world in possible_worlds(182, 700):
            f = chance.choice(rules.functions)
            pieces = table(rules, f)
            self.assertIs(type(pieces), tuple)
            self.assertEqual({type(piece) for piece in pieces}, {tuple})
            start = 0
            for first, last, *_ in pieces:
                self.assertEqual(first, start)
                self.assertLessEqual(first, last)
                start = last + 1
            self.assertEqual(start, rules.last + 1)
            for x in range(rules.last + 1):
                self.assertEqual(read(pieces, x), (world.status((f, x)), world.range_at((f, x))), (f, x, rules.told))
            self.assertIs(is_table(rules, f, pieces), True)

    def test_refusals_in_the_midst_of_stretches(self):
        found = {"ahead": 0, "behind": 0, "both": 0}
        for _, rules, world in crossing_worlds(192, 250):
            for f in rules.functions:
                pieces = table(rules, f)
                for x in range(rules.last + 1):
                    self.assertEqual(read(pieces, x), (world.status((f, x)), world.range_at((f, x))), (f, x, rules.told))
                self.assertTrue(is_table(rules, f, pieces))
                self.assertEqual(members(fixed(rules, f)), world.fixed(f))
                names = [piece[2] for piece in pieces]
                key = {(True, False): "ahead", (False, True): "behind", (True, True): "both"}
                if "open" in names and "refuses" in (names[0], names[-1]):
                    found[key[(names[0] == "refuses", names[-1] == "refuses")]] += 1
        self.assertGreater(min(found.values()), 4, found)

    def test_what_is_fixed(self):
        found = {"fixed": 0, "refused": 0, "free": 0}
        for chance, rules in small_worlds(183, 500, high=14):
            every = Places([(0, rules.last)])
            slope, height = chance.randint(-2, 2), chance.randint(-3, 3)
            told = [Answers("f", every), Bound("f", every, "<=", slope, height + chance.randint(0, rules.last))]
            told += [Bound("f", every, ">=", slope + chance.randint(0, 1), height)]
            rules = Rules(rules.functions, rules.last, [*rules.told[:4], *told])
            world = oracle.World(rules)
            if not world.can_answer([]):
                continue
            for f in rules.functions:
                told = fixed(rules, f)
                self.assertIs(type(told), Places)
                self.assertEqual(members(told), world.fixed(f))
                for x in range(rules.last + 1):
                    name = "refused" if status(rules, f, x) == "refuses" else "fixed" if x in told else "free"
                    found[name] += 1
        self.assertGreater(min(found.values()), 40, found)

    def test_what_is_fixed_by_the_table(self):
        for chance, rules, _ in possible_worlds(191, 300):
            f = chance.choice(rules.functions)
            wanted = []
            for first, last, name, low, high in table(rules, f):
                for x in range(first, last + 1):
                    one = name == "answers" and low is not None and high is not None and low(x) == high(x)
                    if name == "refuses" or one:
                        wanted.append(x)
            self.assertEqual(members(fixed(rules, f)), wanted)

    def test_over_all_programs(self):
        chance = chance_of(184)
        seen = {}
        for functions, last, top, many in ((["f"], 4, 2, 60), (["f"], 3, 3, 60), (["f", "g"], 1, 2, 80), (["f", "g", "h"], 0, 3, 60),
                                           (["g", "f"], 2, 1, 40), (["f", "g", "h"], 1, 1, 20)):
            for _ in range(many):
                rules = oracle.bounded_rules(chance, functions, last, chance.randint(0, 5), top)
                let = oracle.all_let(rules, top)
                if not let:
                    self.assertRaises(Impossible, status, rules, "f", 0)
                    continue
                for f, x in calls_of(rules):
                    outcomes = {outcome[f][x] for outcome in let}
                    answers = outcomes - {None}
                    name = "refuses" if not answers else "open" if None in outcomes else "answers"
                    self.assertEqual(status(rules, f, x), name)
                    told = range_at(rules, f, x)
                    self.assertEqual(told, (min(answers), max(answers)) if answers else None)
                    # Each number between the ends is an answer, too.
                    self.assertEqual(answers, set(range(told[0], told[1] + 1)) if answers else set())
                    self.assertEqual(x in fixed(rules, f), len(outcomes) == 1)
                    seen[name] = seen.get(name, 0) + 1
        self.assertGreater(min(seen.values()), 80)


class LetPrograms(unittest.TestCase):
    def test_each_number_of_a_range_and_none_beside_it(self):
        found = {True: 0, False: 0}
        for chance, rules, _ in possible_worlds(185, 250):
            f, x = chance.choice(rules.functions), chance.randint(0, rules.last)
            told = range_at(rules, f, x)
            low, high = (None, None) if told is None else told
            middle = 0 if low is None and high is None else high if low is None else low
            for value in range(middle - 4, middle + 8):
                within = told is not None and (low is None or low <= value) and (high is None or value <= high)
                given = Rules(rules.functions, rules.last, [*rules.told, Bound(f, Places([(x, x)]), "=", 0, value)])
                self.assertEqual(can_answer(given, [(f, x)]), within)
                found[within] += 1
            for end in (low, high):
                if end is not None:
                    given = Rules(rules.functions, rules.last, [*rules.told, Bound(f, Places([(x, x)]), "=", 0, end)])
                    self.assertTrue(can_answer(given, [(f, x)]))
        self.assertGreater(min(found.values()), 500)

    def test_what_is_open_is_answered_by_some_and_refused_by_some(self):
        found = {}
        for chance, rules, _ in possible_worlds(186, 400):
            f, x = chance.choice(rules.functions), chance.randint(0, rules.last)
            refused = can_answer(Rules(rules.functions, rules.last, [*rules.told, Refuses(f, Places([(x, x)]))]), [])
            name = status(rules, f, x)
            wanted = {"open": (True, True), "answers": (True, False), "refuses": (False, True)}[name]
            self.assertEqual((can_answer(rules, [(f, x)]), refused), wanted)
            found[name] = found.get(name, 0) + 1
        self.assertGreater(min(found.values()), 30)


class ToldOtherwise(unittest.TestCase):
    def test_the_same_tables(self):
        for chance, rules, _ in possible_worlds(187, 500):
            other = turned.told_otherwise(chance, rules)
            for f in rules.functions:
                self.assertTrue(is_table(other, f, table(rules, f)), (rules.told, other.told))
                self.assertTrue(fixed(other, f) == fixed(rules, f))

    def test_functions_in_another_order(self):
        for _, rules, _ in possible_worlds(188, 150):
            other = Rules(rules.functions[::-1], rules.last, rules.told)
            for f in rules.functions:
                self.assertTrue(is_table(other, f, table(rules, f)))

    def test_rules_turned(self):
        for chance, rules, _ in possible_worlds(189, 400):
            f = chance.choice(rules.functions)
            pieces = table(rules, f)
            self.assertTrue(is_table(turned.negated(rules), f, turned.table_negated(pieces)))
            factor = chance.choice((1, 2, 7, BIG))
            self.assertTrue(is_table(turned.multiplied(rules, factor), f, turned.table_multiplied(pieces, factor)))
            self.assertTrue(is_table(turned.mirrored(rules), f, turned.table_mirrored(pieces, rules.last)))
            by = chance.choice((1, 2, 5, 10 ** 20, FAR - rules.last))
            ahead = [(0, by - 1, "open", None, None)]
            self.assertTrue(is_table(turned.moved(rules, by), f, ahead + turned.table_moved(pieces, by)))


class Equal(unittest.TestCase):
    def test_equal_calls_on_equal_objects_return_equal_results(self):
        for chance, rules, _ in possible_worlds(190, 120):
            again = Rules(list(rules.functions), rules.last, [clause.moved(0) for clause in rules.told])
            f = chance.choice(rules.functions)
            before = [clause.text() for clause in rules.told]
            first = table(rules, f)
            self.assertTrue(first == table(again, f) and first == table(rules, f))
            self.assertEqual(range_at(rules, f, 0), range_at(again, f, 0))
            self.assertEqual([clause.text() for clause in rules.told], before)


class Errors(Refusing):
    def test_functions(self):
        for rules in (RULES, Rules(["f"], 0, [])):
            for value in ("h", "", "F", "answers", None, 0, 1, -1, True, False):
                for action in (table, fixed, lambda *both: is_table(*both, ()), lambda *both: status(*both, 0),
                               lambda *both: range_at(*both, 0), lambda *both: status(*both, None)):
                    self.refused(NoFunction, value, lambda: action(rules, value))

    def test_places(self):
        for value in (-1, 10, FAR, FAR + 1, BIG, None, True, False, "0", "f"):
            for action in (status, range_at):
                self.refused(NoPlace, value, lambda: action(RULES, "f", value))
        for place in (0, 9):
            self.assertEqual(status(RULES, "f", place), "answers")

    def test_impossible_ahead_of_all(self):
        for f in ("f", "h", None):
            for action in (table, fixed, lambda *both: is_table(*both, None), lambda *both: status(*both, -1),
                           lambda *both: range_at(*both, 10)):
                self.assertRaises(Impossible, action, BROKEN, f)
        for action in (least_program, greatest_program):
            self.assertRaises(Impossible, action, BROKEN)

    def test_impossible_by_a_ring_alone(self):
        rules = Rules(["f"], FAR, [Answers("f", Places([(0, FAR)])), Step("f", Places([(0, FAR)]), ">=", 1),
                                   Bound("f", Places([(0, FAR)]), ">=", 0, 0), Bound("f", Places([(FAR, FAR)]), "<=", 0, FAR - 1)])
        self.assertRaises(Impossible, status, rules, "f", 0)
        needy = Rules(["f", "g"], 3, [Answers("f", Places([(2, 2)])), Needs("g", Places([(2, 2)]), "f"),
                                      Pair("f", Places([(2, 2)]), "=", "g", 0, 1), Pair("g", Places([(2, 2)]), "=", "f", 0, 0)])
        self.assertRaises(Impossible, table, needy, "g")


if __name__ == "__main__":
    unittest.main()
