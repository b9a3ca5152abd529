"""Point 18 in large worlds: tables at the ends of their pieces, and programs from which clauses were read off."""

import unittest

from openranges.clauses import Answers, Bound, Needs, Pair, Refuses, Spreads, Step
from openranges.errors import Impossible
from openranges.lines import Line
from openranges.places import Places
from openranges.ranges import fixed, is_table, range_at, status, table
from openranges.rules import Rules
from tests import turned
from tests.large import FUNCTIONS, free_clause, some_large
from tests.plain import chance_of
from tests.test_ranges import read
from tests.values import FAR


def cases(seed, many, sizes=(4, 10, 25)):
    """Possible rules with a program from which most of the clauses were read off, and which keeps those."""
    chance = chance_of(seed)
    for _ in range(many):
        program, rules = some_large(chance, chance.choice(sizes), FUNCTIONS[:chance.randint(1, 3)])
        for _ in range(chance.choice((0, 0, 2)) if len(rules.told) < 59 else 0):
            further = Rules(rules.functions, rules.last, [*rules.told, free_clause(chance, rules)])
            try:
                status(further, "f", 0)
            except Impossible:
                continue
            rules = further
        yield chance, program, rules


def places_beside(pieces, last):
    """The ends of pieces, and the places beside them."""
    found = {0, 1, last - 1, last}
    for piece in pieces:
        found |= {piece[0] - 1, piece[0], piece[0] + 1, (piece[0] + piece[1]) // 2, piece[1] - 1, piece[1], piece[1] + 1}
    return sorted(x for x in found if 0 <= x <= last)


class Tables(unittest.TestCase):
    def test_at_the_ends_of_pieces_and_beside_them(self):
        found = {}
        for chance, _, rules in cases(221, 60):
            f = chance.choice(rules.functions)
            pieces = table(rules, f)
            self.assertIs(is_table(rules, f, pieces), True)
            places = places_beside(pieces, rules.last)
            for x in sorted(chance.sample(places, min(30, len(places)))):
                told = (status(rules, f, x), range_at(rules, f, x))
                self.assertEqual(read(pieces, x), told)
                found[told[0]] = found.get(told[0], 0) + 1
        self.assertGreater(min(found.values()), 50, found)

    def test_at_the_ends_of_clauses_and_anywhere(self):
        for chance, _, rules in cases(222, 40):
            f = chance.choice(rules.functions)
            pieces = table(rules, f)
            ends = [stretch for clause in rules.told for stretch in clause.places.stretches]
            places = places_beside(ends, rules.last) + [chance.randint(0, rules.last) for _ in range(10)]
            for x in chance.sample(places, 25):
                self.assertEqual(read(pieces, x), (status(rules, f, x), range_at(rules, f, x)))

    def test_programs_from_which_clauses_were_read_off(self):
        seen = {}
        for chance, program, rules in cases(223, 60):
            if not program.keeps(rules.told):
                continue
            f = chance.choice(rules.functions)
            pieces = table(rules, f)
            here = fixed(rules, f)
            ends = [*pieces, *program.pieces(f)]
            for x in places_beside(ends, rules.last):
                name, told = read(pieces, x)
                answer = program(f, x)
                if answer is None:
                    self.assertNotEqual(name, "answers")
                else:
                    self.assertNotEqual(name, "refuses")
                    low, high = told
                    self.assertTrue((low is None or low <= answer) and (high is None or answer <= high))
                alone = name == "refuses" or (name == "answers" and told[0] is not None and told[0] == told[1])
                self.assertEqual(x in here, alone)
                seen[(name, answer is None)] = seen.get((name, answer is None), 0) + 1
        self.assertEqual(set(seen), {("answers", False), ("open", False), ("open", True), ("refuses", True)})

    def test_sixty_clauses(self):
        for chance, program, rules in cases(224, 6, (60,)):
            for f in rules.functions:
                pieces = table(rules, f)
                self.assertIs(is_table(rules, f, pieces), True)
                for x in (0, rules.last, *[chance.choice(pieces)[0] for _ in range(5)]):
                    self.assertEqual(read(pieces, x), (status(rules, f, x), range_at(rules, f, x)))


class ToldOtherwise(unittest.TestCase):
    def test_the_same_and_the_turned_tables(self):
        for chance, _, rules in cases(225, 40):
            f = chance.choice(rules.functions)
            pieces = table(rules, f)
            self.assertTrue(is_table(turned.told_otherwise(chance, rules), f, pieces))
            self.assertTrue(is_table(turned.negated(rules), f, turned.table_negated(pieces)))
            self.assertTrue(is_table(turned.multiplied(rules, 10 ** 40), f, turned.table_multiplied(pieces, 10 ** 40)))
            self.assertTrue(is_table(turned.mirrored(rules), f, turned.table_mirrored(pieces, rules.last)))

    def test_rules_moved(self):
        for chance, _, rules in cases(226, 30):
            half = Rules(rules.functions, FAR // 2, [turned.with_places(clause, clause.places & Places([(0, FAR // 2)]))
                                                     for clause in rules.told])
            f = chance.choice(rules.functions)
            by = chance.choice((1, 10 ** 10, FAR // 2))
            pieces = [(0, by - 1, "open", None, None), *turned.table_moved(table(half, f), by)]
            self.assertTrue(is_table(turned.moved(half, by), f, pieces))


class Written(unittest.TestCase):
    def test_steps_along_which_ranges_grow(self):
        every = Places([(0, FAR)])
        at = 10 ** 20
        rules = Rules(["f"], FAR, [Answers("f", every), Bound("f", Places([(at, at)]), "=", 0, 7),
                                   Step("f", every, "<=", 3), Step("f", every, ">=", -2)])
        wanted = [(0, at, "answers", Line(3, 7 - 3 * at), Line(-2, 7 + 2 * at)),
                  (at + 1, FAR, "answers", Line(-2, 7 + 2 * at), Line(3, 7 - 3 * at))]
        self.assertTrue(is_table(rules, "f", wanted))
        self.assertEqual(fixed(rules, "f").text(), str(at))

    def test_a_refusal_in_between_cuts_steps(self):
        at = 10 ** 20
        told = [Bound("f", Places([(0, 0)]), "=", 0, 0), Step("f", Places([(0, FAR)]), "=", 1), Refuses("f", Places([(at, at)]))]
        alone = [(0, 0, "open", Line(0, 0), Line(0, 0)), (1, at - 1, "open", None, None), (at, at, "refuses", None, None),
                 (at + 1, FAR, "open", None, None)]
        self.assertTrue(is_table(Rules(["f"], FAR, told), "f", alone))
        told += [Spreads("f", Places([(0, at - 1), (at + 1, FAR)]), "down")]
        spread = [(0, at - 1, "open", Line(1, 0), Line(1, 0)), *alone[2:]]
        self.assertTrue(is_table(Rules(["f"], FAR, told), "f", spread))

    def test_a_bound_by_way_of_calls_far_off_that_must_be_answered(self):
        every = Places([(0, FAR)])
        at = FAR // 2
        # An answer of f at x brings those behind it, and those of g far behind; what is told of g beside them is no matter.
        for width in (1, 2, 10 ** 9):
            there = Places([(at, at + width - 1)])
            for near in (Places([(at, at)]), Places([(at + width - 1, at + width - 1)]), there):
                told = [Spreads("f", every, "up"), Step("f", every, ">=", 1), Needs("g", there, "f"),
                        Pair("f", every, "<=", "g", 0, 2), Bound("g", near, "<=", 0, 7),
                        Bound("g", Places([(at - 3, at - 1), (at + width, at + width + 2)]), "<=", 0, -99)]
                rules = Rules(["g", "f"], FAR, told)
                high = near.greatest()
                wanted = [(0, high, "open", None, Line(1, 9 - high)), (high + 1, FAR, "open", None, None)]
                self.assertTrue(is_table(rules, "f", wanted), (width, near.text()))
                self.assertTrue(is_table(turned.mirrored(rules), "f", turned.table_mirrored(wanted, FAR)))

    def test_a_function_pinned_by_way_of_two_others(self):
        every = Places([(0, FAR)])
        mid = Places([(FAR // 4, FAR // 2)])
        told = [Needs("g", every, "f"), Needs("h", mid, "g"), Pair("f", every, "<=", "g", 2, 1), Pair("g", mid, "<=", "h", -1, 4),
                Bound("h", every, "<=", 5, -3), Bound("g", every, ">=", 0, 0), Pair("f", mid, ">=", "h", 0, 9)]
        rules = Rules(["f", "g", "h"], FAR, told)
        # The least of h is the least of g: x - 4; the greatest of f is 6 x + 2.
        wanted = [(0, mid.least() - 1, "open", None, None), (mid.least(), mid.greatest(), "open", Line(1, 5), Line(6, 2)),
                  (mid.greatest() + 1, FAR, "open", None, None)]
        self.assertTrue(is_table(rules, "f", wanted), table(rules, "f"))

    def test_where_a_range_becomes_empty_calls_are_refused(self):
        every = Places([(0, FAR)])
        for slope, turn in ((1, 10), (3, 3), (7, 1), (10, 1), (11, 0)):
            rules = Rules(["f"], FAR, [Bound("f", every, "<=", -slope, 10), Bound("f", every, ">=", 0, 0)])
            wanted = [(0, turn, "open", Line(0, 0), Line(-slope, 10)), (turn + 1, FAR, "refuses", None, None)]
            self.assertTrue(is_table(rules, "f", wanted))
            self.assertTrue(is_table(turned.mirrored(rules), "f", turned.table_mirrored(wanted, FAR)))

    def test_where_a_range_is_empty_at_either_end_of_a_stretch(self):
        every = Places([(0, FAR)])
        for at in (7, 10 ** 12, FAR - 7):
            for first, last in ((at, at), (at - 1, at + 1), (at - 5, at + 2)):
                told = [Bound("f", every, ">=", 2, -2 * last), Bound("f", every, ">=", -3, 3 * first), Bound("f", every, "<=", 0, 0)]
                rules = Rules(["f"], FAR, told)
                low = range_at(rules, "f", at)[0]
                self.assertEqual(low, max(2 * (at - last), 3 * (first - at)))
                self.assertEqual([status(rules, "f", x) for x in (first - 1, first, last, last + 1)], ["refuses", "open", "open", "refuses"])
                self.assertTrue(fixed(rules, "f") == Places([(0, first - 1), (last + 1, FAR)]))
                pieces = table(rules, "f")
                for x in (0, first - 1, first, first + 1, last - 1, last, last + 1, FAR):
                    if 0 <= x <= FAR:
                        self.assertEqual(read(pieces, x), (status(rules, "f", x), range_at(rules, "f", x)))

    def test_many_lines(self):
        every = Places([(0, FAR)])
        highs = [Line(-k, k * k * 10 ** 12 + 100 * FAR) for k in range(30)]
        lows = [Line(k, -2 * k * FAR - k * k) for k in range(25)]
        told = [Bound("f", every, "<=", line.slope, line.height) for line in highs]
        told += [Bound("f", every, ">=", line.slope, line.height) for line in lows]
        pieces = table(Rules(["f"], FAR, told + [Answers("f", every)]), "f")
        self.assertGreater(len(pieces), 25)
        for x in places_beside(pieces, FAR):
            self.assertEqual(read(pieces, x), ("answers", (max(line(x) for line in lows), min(line(x) for line in highs))))


if __name__ == "__main__":
    unittest.main()
