"""Point 16: rows and hops with spots, held against the reckoning x by x."""

import itertools
import unittest

from openranges.chains import chain_line, hops_hold, placed, rows_hold
from openranges.claims import derivation
from openranges.clauses import Answers, Bound, Needs, Pair, Spreads, Step
from openranges.ladders import hop_cost
from openranges.lines import Line
from openranges.places import Places
from openranges.rules import Rules
from tests import oracle
from tests.changes import as_lists, changed
from tests.plain import chance_of, some_clause
from tests.test_ladders import HOPPING
from tests.values import BIG, FAR, any_values

X = ("x", 0)
EVERY = Places([(0, FAR)])
TOLD = [Answers("f", Places([(0, 4)])), Spreads("f", EVERY, "up"), Needs("g", EVERY, "f"), Spreads("g", EVERY, "down")]
TOLD += [Bound("f", EVERY, "<=", 2, 5), Pair("g", EVERY, "=", "f", 0, 1), Step("g", EVERY, "<=", -1), Step("g", EVERY, ">=", -4)]
FAR_RULES = Rules(["f", "g"], FAR, TOLD)
CUT = Places([(0, 30)])
NEAR_RULES = Rules(["f", "g"], 30, [TOLD[0], Spreads("f", CUT, "up"), Needs("g", CUT, "f"), Bound("f", CUT, "<=", 2, 5)])


def asked_spots(claim):
    """The calls that point 17 asks for a claim, with spots."""
    f = claim.function
    if claim.kind == "answers":
        return []
    if claim.kind == "needs":
        return [(claim.other, X)]
    if claim.kind == "pair":
        return [(f, X), (claim.other, X)]
    if claim.kind == "step":
        return [(f, X), (f, ("x", 1))]
    return [(f, ("x", 1) if claim.kind == "spreads" and claim.way == "down" else X)]


def derived(seed, many):
    """Rules with a part of a derivation, and the asked calls with spots."""
    chance = chance_of(seed)
    for _ in range(many):
        functions = ["f", "g", "h"][:chance.randint(1, 3)]
        last = chance.randint(5, 22)
        rules = oracle.some_rules(chance, functions, last, chance.randint(2, 8))
        claim = some_clause(chance, functions, last, most=7)
        parts = derivation(rules, claim)
        if parts:
            moving = [part for part in parts if part[0] < part[1]] or parts
            yield chance, rules, chance.choice(moving), asked_spots(claim)


class Placed(unittest.TestCase):
    def test_rows(self):
        self.assertEqual(placed(("f", ("x", -2), 7, ("up", 1)), 5), ("f", 3, 7, ("up", 1)))
        self.assertEqual(placed(("f", 7, ("x", 3), ("asked",)), FAR), ("f", 7, FAR + 3, ("asked",)))
        self.assertEqual(placed(("f", 7, 8, ("answers", 0)), 5), ("f", 7, 8, ("answers", 0)))

    def test_hops(self):
        self.assertEqual(placed((4, "f", ("x", 0), "f", 9), 5), (4, "f", 5, "f", 9))
        self.assertEqual(placed((0, None, ("x", 1), "f", ("x", 1)), 5), (0, None, 6, "f", 6))
        self.assertEqual(placed((0, "g", 3, "f", 3), 5), (0, "g", 3, "f", 3))
        self.assertIs(type(placed((4, "f", X, "f", 9), 5)), tuple)


class ChainLine(unittest.TestCase):
    def test_sums_of_the_costs(self):
        shapes = [(0, None, "f"), (1, "f", None), (2, "g", "f"), (3, "f", "g"), (6, None, "f"), (6, "f", None)]
        shapes += [(7, "g", "f"), (7, "f", "g")]
        spots = [2, 5, 9, X, ("x", 1), ("x", -2)]
        hops = [(index, f, spot, g, spot) for (index, f, g), spot in itertools.product(shapes, spots)]
        hops += [(4, "f", p, "f", q) for p, q in ((2, 5), (X, ("x", 2)), (3, X), (X, 6))]
        hops += [(5, "f", p, "f", q) for p, q in ((5, 2), (("x", 2), X), (X, 3), (6, X))]
        hops += [(8, "f", p, "f", q) for p, q in itertools.permutations((2, 6, X, ("x", 1)), 2)]
        chance = chance_of(61)
        for hop in hops:
            line = chain_line(HOPPING, [hop])
            for x in range(2, 7):
                cost = hop_cost(HOPPING, placed(hop, x))
                if cost is not None:
                    self.assertEqual(line(x), cost, (hop, x))
        for _ in range(200):
            some = [chance.choice(hops) for _ in range(chance.randint(0, 5))]
            line = chain_line(HOPPING, tuple(some))
            self.assertIs(type(line), Line)
            for x in (-7, 0, 4, BIG):
                self.assertEqual(line(x), sum(chain_line(HOPPING, [hop])(x) for hop in some))
        self.assertTrue(chain_line(HOPPING, []) == Line(0, 0))

    def test_lines(self):
        told = {
            (0, None, X, "f", X): Line(2, 5), (0, None, ("x", 3), "f", ("x", 3)): Line(2, 11), (0, None, 4, "f", 4): Line(0, 13),
            (1, "f", X, None, X): Line(-3, 1), (2, "g", ("x", -1), "f", ("x", -1)): Line(1, 3), (3, "f", X, "g", X): Line(2, -6),
            (4, "f", X, "f", 9): Line(-7, 63), (4, "f", 2, "f", X): Line(7, -14), (4, "f", X, "f", ("x", 5)): Line(0, 35),
            (5, "f", 9, "f", X): Line(-3, 27), (5, "f", X, "f", 2): Line(3, -6), (8, "f", 9, "f", X): Line(7, -63),
            (40, "f", 9, "f", X): None,
        }
        for hop, line in told.items():
            if line is not None:
                self.assertTrue(chain_line(HOPPING, [hop]) == line, hop)
        self.assertTrue(chain_line(HOPPING, list(told)[:2]) == Line(4, 16))


class RowsHold(unittest.TestCase):
    def plainly(self, rules, rows, asked, first, last):
        wrong = []
        for x in range(first, last + 1):
            calls = [(f, oracle.at_spot(spot, x)) for f, spot in asked]
            wrong.append(oracle.first_wrong(rules, oracle.rows_at(rows, x), calls))
        wrong = [index for index in wrong if index != -1]
        return min(wrong) if wrong else -1

    def test_rows_of_derivations_changed_by_one_thing(self):
        right = 0
        for chance, rules, (first, last, rows, _), asked in derived(62, 1500):
            self.assertEqual(rows_hold(rules, rows, asked, first, last), -1)
            self.assertEqual(rows_hold(rules, as_lists(rows), asked, first, last), -1)
            for _ in range(6):
                other = changed(chance, rows) if chance.random() < 0.8 else rows
                low = max(0, first + chance.randint(-1, 1))
                high = max(low, last + chance.randint(-1, 1))
                if any(oracle.at_spot(spot, high) > rules.last for _, spot in asked):
                    continue
                wanted = self.plainly(rules, other, asked, low, high)
                self.assertEqual(rows_hold(rules, other, asked, low, high), wanted, (rules.told, other, low, high))
                right += wanted == -1 and other != rows
        self.assertGreater(right, 200)

    def test_rows_covered_by_different_rows_at_different_x(self):
        rules = Rules(["f", "g"], 30, [Answers("f", Places([(0, 4), (5, 9), (12, 20)])), Needs("g", Places([(0, 30)]), "f")])
        rows = [("f", 0, 4, ("answers", 0)), ("f", 5, 9, ("answers", 0)), ("f", 12, 20, ("answers", 0))]
        for spot, low in ((X, 0), (("x", 2), 0), (("x", -3), 3)):
            for high in range(low, 25):
                needs = ("g", spot, ("x", spot[1] + 1), ("needs", 1))
                wanted = self.plainly(rules, rows + [needs], [], low, high)
                self.assertEqual(rows_hold(rules, rows + [needs], [], low, high), wanted)
        moving = [("f", 0, X, ("answers", 0)), ("f", X, 9, ("answers", 0)), ("g", 0, 9, ("needs", 1))]
        self.assertEqual(rows_hold(rules, moving, [], 0, 9), -1)
        self.assertEqual(rows_hold(rules, moving, [], 0, 10), 0)
        apart = [("f", 0, X, ("answers", 0)), ("f", ("x", 2), 9, ("answers", 0)), ("g", 0, 9, ("needs", 1))]
        self.assertEqual(rows_hold(rules, apart, [], 3, 3), 2)

    def test_random_rows_with_spots(self):
        chance = chance_of(63)
        rules = Rules(["f", "g"], 12, [
            Answers("f", Places([(0, 3), (4, 6), (9, 12)])), Spreads("f", Places([(0, 12)]), "up"),
            Needs("g", Places([(1, 11)]), "f"), Spreads("g", Places([(0, 12)]), "down"), Needs("f", Places([(0, 12)]), "g")])
        reasons = [("answers", 0), ("up", 1), ("needs", 2), ("down", 3), ("needs", 4), ("asked",)]
        right = 0
        for _ in range(6000):
            rows = []
            for _ in range(chance.randint(1, 4)):
                reason = chance.choice(reasons)
                f = "g" if reason in (("needs", 2), ("down", 3)) else "f"
                ends = [chance.choice((chance.randint(0, 12), ("x", chance.randint(-2, 2)))) for _ in range(2)]
                rows.append((f, ends[0], chance.choice((ends[0], ends[1], ends[1])), reason))
            low = chance.randint(2, 7)
            high = chance.randint(low, 9)
            asked = [("f", ("x", chance.randint(-1, 1))), ("f", 4), ("f", 5)]
            wanted = self.plainly(rules, rows, asked, low, high)
            self.assertEqual(rows_hold(rules, rows, asked, low, high), wanted, (rows, asked, low, high))
            right += wanted == -1
        self.assertGreater(right, 100)

    def test_far_stretches(self):
        rows = [("f", X, X, ("asked",)), ("f", ("x", 1), FAR, ("up", 1)), ("g", X, FAR, ("needs", 2)), ("g", 0, ("x", -1), ("down", 3))]
        asked = [("f", X)]
        self.assertEqual(rows_hold(FAR_RULES, rows, asked, 1, FAR - 1), -1)
        self.assertEqual(rows_hold(FAR_RULES, rows, asked, 1, FAR), 1)
        self.assertEqual(rows_hold(FAR_RULES, rows, asked, 0, FAR - 1), 3)
        self.assertEqual(rows_hold(FAR_RULES, rows[:1], asked, 0, FAR), -1)
        self.assertEqual(rows_hold(FAR_RULES, rows, [("f", ("x", 1))], 1, 9), 0)
        self.assertEqual(rows_hold(FAR_RULES, [("f", X, X, ("answers", 0))], [], 0, 4), -1)
        self.assertEqual(rows_hold(FAR_RULES, [("f", X, X, ("answers", 0))], [], 0, 5), 0)
        behind = [("f", 0, 4, ("answers", 0)), ("f", 5, FAR, ("up", 1)), ("g", ("x", -9), ("x", 9), ("needs", 2))]
        self.assertEqual(rows_hold(FAR_RULES, behind, [], 9, FAR - 9), -1)
        self.assertEqual(rows_hold(FAR_RULES, behind, [], 8, FAR - 9), 2)
        self.assertEqual(rows_hold(FAR_RULES, behind, [], 9, FAR - 8), 2)

    def test_asked_calls_at_different_x(self):
        rows = [("f", X, X, ("asked",))]
        asked = [("f", 5), ("f", 6), ("f", 7), ("g", 8)]
        for first, last in ((5, 5), (5, 7), (6, 7), (5, 8), (4, 7), (8, 8)):
            wanted = -1 if 5 <= first and last <= 7 else 0
            self.assertEqual(rows_hold(FAR_RULES, rows, asked, first, last), wanted)
        self.assertEqual(rows_hold(FAR_RULES, [("f", X, 5, ("asked",))], asked, 5, 5), -1)
        self.assertEqual(rows_hold(FAR_RULES, [("f", X, 5, ("asked",))], asked, 5, 6), 0)

    def test_any_values(self):
        good = ("f", 0, 4, ("answers", 0))
        for value in any_values():
            wanted = self.plainly(NEAR_RULES, value, [], 3, 4)
            self.assertEqual(rows_hold(NEAR_RULES, value, [], 3, 4), wanted)
            if not (isinstance(value, (tuple, list))):
                self.assertEqual(wanted, 0)
            self.assertEqual(rows_hold(NEAR_RULES, [good, value], [], 3, 4), 1)
            for row in ([value, 0, 4, good[3]], ["f", value, 4, good[3]], ["f", 0, value, good[3]], ["f", 0, 4, value]):
                self.assertEqual(rows_hold(NEAR_RULES, [row], [], 3, 4), self.plainly(NEAR_RULES, [row], [], 3, 4), row)
            for spot in (("x", value), (value, 0), ("x", 0, value), ("x",), ("y", 0), "x", ["x", value], {"x": 0}):
                row = ("f", 0, spot, ("answers", 0))
                self.assertEqual(rows_hold(NEAR_RULES, [row], [], 3, 4), self.plainly(NEAR_RULES, [row], [], 3, 4), row)


class HopsHold(unittest.TestCase):
    def plainly(self, rules, hops, rows, first, last):
        if not isinstance(hops, (tuple, list)) or not isinstance(rows, (tuple, list)):
            return False
        known = oracle.hops(rules)
        for x in range(first, last + 1):
            have = set()
            for row in oracle.rows_at(rows, x):
                if oracle.parted(row, 4) and isinstance(row[0], str) and all(oracle.is_number(end) for end in row[1:3]):
                    have |= {(row[0], place) for place in range(max(row[1], -1), min(row[2], 100) + 1)}
            here = oracle.hops_at(hops, x)
            if here and oracle.cost_of(rules, here[0], known) is None:
                return False
            start = oracle.call(here[0][1], here[0][2]) if here else None
            goal = oracle.call(here[-1][3], here[-1][4]) if here and oracle.parted(here[-1], 5) else start
            if not oracle.chained(rules, here, start, goal, have, known):
                return False
        return True

    def test_hops_of_derivations_changed_by_one_thing(self):
        right = 0
        for chance, rules, (first, last, rows, end), _ in derived(64, 2500):
            for hops in end[1:]:
                if end[0] == "bar":
                    continue
                self.assertIs(hops_hold(rules, hops, rows, first, last), True)
                self.assertIs(hops_hold(rules, as_lists(hops), as_lists(rows), first, last), True)
                for _ in range(6):
                    told = changed(chance, hops) if chance.random() < 0.7 else hops
                    among = changed(chance, rows) if chance.random() < 0.5 else rows
                    low = max(0, first + chance.randint(-1, 1))
                    high = max(low, last + chance.randint(-1, 1))
                    wanted = self.plainly(rules, told, among, low, high)
                    self.assertIs(hops_hold(rules, told, among, low, high), wanted, (rules.told, told, among, low, high))
                    right += wanted
        self.assertGreater(right, 100)

    def test_far_stretches(self):
        rows = [("f", X, X, ("asked",)), ("f", ("x", 1), FAR, ("up", 1)), ("g", X, FAR, ("needs", 2)), ("g", 0, ("x", -1), ("down", 3))]
        hops = [(4, None, ("x", 1), "f", ("x", 1)), (5, "f", ("x", 1), "g", ("x", 1)), (6, "g", ("x", 1), "g", FAR), (7, "g", FAR, "g", 0)]
        self.assertIs(hops_hold(FAR_RULES, hops, rows, 0, FAR - 2), True)
        self.assertIs(hops_hold(FAR_RULES, hops, rows, 0, FAR - 1), False)
        self.assertIs(hops_hold(FAR_RULES, hops[:3], rows, 0, FAR - 2), True)
        self.assertIs(hops_hold(FAR_RULES, hops[:2], rows, 0, FAR - 1), True)
        self.assertIs(hops_hold(FAR_RULES, hops[:2], rows[:2], 0, 9), False)
        self.assertIs(hops_hold(FAR_RULES, hops[3:], rows[2:], 5, FAR), True)
        self.assertIs(hops_hold(FAR_RULES, hops[3:], rows[2:3], 5, FAR), False)
        turning = [(6, "g", 7, "g", X)]
        covered = [("g", 0, FAR, None)]
        self.assertIs(hops_hold(FAR_RULES, turning, covered, 8, FAR), True)
        self.assertIs(hops_hold(FAR_RULES, turning, covered, 7, FAR), False)
        self.assertIs(hops_hold(FAR_RULES, turning, covered, 0, 6), False)
        self.assertIs(hops_hold(FAR_RULES, [(4, None, 7, "f", X)], [("f", 0, FAR, 0)], 7, 7), True)
        self.assertIs(hops_hold(FAR_RULES, [(4, None, 7, "f", X)], [("f", 0, FAR, 0)], 7, 8), False)

    def test_steps_from_or_to_a_place_that_stays(self):
        for p, q, low, high in ((20, X, X, 20), (X, 20, X, 20), (2, X, 2, X), (X, 2, 2, X)):
            index = 7 if (p, q) in ((20, X), (X, 2)) else 6
            hop = (index, "g", p, "g", q)
            self.assertIs(hops_hold(FAR_RULES, [hop], [("g", low, high, 0)], 5, 15), True)
            self.assertIs(hops_hold(FAR_RULES, [(13 - index, *hop[1:])], [("g", low, high, 0)], 5, 15), False)
            for rows in ([("g", p, p, 0), ("g", q, q, 0)], [("g", 2, 4, 0), ("g", 15, 20, 0)], [("g", p, p, 0)], [("g", q, q, 0)],
                         [("f", low, high, 0)], [("g", 6, 20, 0)], [("g", 2, 14, 0)], [("g", X, X, 0)], [("g", high, low, 0)]):
                self.assertIs(hops_hold(FAR_RULES, [hop], rows, 5, 15), False, (hop, rows))

    def test_a_hole_at_one_x_alone(self):
        middle = 10 ** 20
        for offset, wide in ((0, 0), (7, 0), (-7, 1), (10 ** 9, 3)):
            low, high = ("x", offset), ("x", offset + wide)
            hop = [(6, "g", low, "g", high)] if wide else [(5, "f", low, "g", low)]
            for hole in (middle, middle + 1):
                rows = [("g", 0, middle - 1, 0), ("g", hole + 1, FAR, 0), ("f", 0, FAR, 0)]
                first, last = hole - offset + 1, middle - offset - wide - 1
                for begin, end, wanted in ((first, first + middle // 2, True), (middle // 2, last, True),
                                           (first - 1, first + middle // 2, False), (middle // 2, last + 1, False),
                                           (middle // 2, 2 * middle, False), (last, first, False), (last, last, True)):
                    self.assertIs(hops_hold(FAR_RULES, hop, rows, begin, end), wanted, (hop, hole, begin, end))

    def test_rows_that_touch_or_leave_one_place_out(self):
        rules = Rules(["f", "g"], FAR, [Answers("f", EVERY), Needs("g", EVERY, "f")])
        middle = 10 ** 20
        for by, turn in ((0, middle - 1), (3, middle - 4), (-9, middle + 8)):
            # Ahead of the turn the rows leave a hole, from it on they touch.
            rows = [("f", 0, ("x", by), ("answers", 0)), ("f", middle, FAR, ("answers", 0)), ("g", 0, FAR, ("needs", 1))]
            self.assertEqual(rows_hold(rules, rows, [], turn, FAR // 2), -1)
            self.assertEqual(rows_hold(rules, rows, [], turn - 1, FAR // 2), 2)
            self.assertEqual(rows_hold(rules, rows, [], turn - 1, turn - 1), 2)
            rows = [("f", ("x", by), FAR, ("answers", 0)), ("f", 0, middle, ("answers", 0)), ("g", 0, FAR, ("needs", 1))]
            self.assertEqual(rows_hold(rules, rows, [], 9, turn + 2), -1)
            self.assertEqual(rows_hold(rules, rows, [], 9, turn + 3), 2)

    def test_no_hops_and_any_values(self):
        good = (4, None, X, "f", X)
        rows = [("f", 0, 4, ("answers", 0))]
        self.assertIs(hops_hold(FAR_RULES, [], [], 0, FAR), True)
        self.assertIs(hops_hold(FAR_RULES, [good], rows, 0, 4), True)
        for value in any_values():
            sequence = isinstance(value, (tuple, list))
            self.assertIs(hops_hold(FAR_RULES, value, rows, 0, 4), sequence and not value)
            self.assertIs(hops_hold(FAR_RULES, [], value, 0, 4), sequence)
            self.assertIs(hops_hold(FAR_RULES, [good], value, 0, 4), False)
            self.assertIs(hops_hold(FAR_RULES, [good, value], rows, 0, 4), False)
            self.assertIs(hops_hold(FAR_RULES, [good], [value] + rows, 0, 4), True)
            for at in range(5):
                hop = list(good)
                hop[at] = value
                same = value is None if at == 1 else at == 3 and value == "f"
                placed_there = at in (2, 4) and oracle.is_number(value) and value == 1
                self.assertIs(hops_hold(FAR_RULES, [hop], rows, 1, 1), same or placed_there, hop)


if __name__ == "__main__":
    unittest.main()
