"""Point 17: derivations, held against a reckoning at every x of each part."""

import unittest

from openranges.claims import asks, derivation, holds, is_derivation
from openranges.clauses import Answers, Bound, Needs, Pair, Refuses, Spreads, Step
from openranges.places import Places
from openranges.rules import Rules
from tests import oracle
from tests.changes import as_lists, changed
from tests.plain import chance_of, members, places_of, some_clause
from tests.test_chains import asked_spots
from tests.test_claims import small_worlds
from tests.values import FAR, any_values

X = ("x", 0)


def sums_at(claim, x):
    """What the ends sum and sums must show at x: (start, goal, number), first that for <=."""
    if claim.kind == "step":
        start, goal, number = (claim.function, x), (claim.function, x + 1), claim.height
    else:
        start = (claim.other, x) if claim.kind == "pair" else None
        goal, number = (claim.function, x), claim.slope * x + claim.height
    both = [(start, goal, number), (goal, start, -number)]
    return {"<=": both[:1], ">=": both[1:], "=": both}[claim.sign]


class Plainly:
    """The reckoning of one world."""

    def __init__(self, rules):
        self.rules = rules
        self.known = oracle.hops(rules)

    def right_at(self, claim, rows, end, x):
        """Whether rows and an end with spots, any values, show a claim at x."""
        calls = [(f, oracle.at_spot(spot, x)) for f, spot in asked_spots(claim)]
        here = oracle.rows_at(rows, x)
        if oracle.first_wrong(self.rules, here, calls) != -1:
            return False
        have = {(row[0], place) for row in here for place in range(row[1], row[2] + 1)}
        if not isinstance(end, (tuple, list)) or not end or not isinstance(end[0], str):
            return False
        if end[0] == "grown" and len(end) == 1:
            return self.grown_at(claim, here, x)
        if end[0] == "bar" and len(end) == 2:
            return self.barred_at(here, end[1])
        if end[0] == "ring" and len(end) == 2:
            return self.ringed_at(have, oracle.hops_at(end[1], x))
        if claim.kind not in ("bound", "pair", "step") or end[0] != ("sums" if claim.sign == "=" else "sum"):
            return False
        wanted = sums_at(claim, x)
        if len(end) != 1 + len(wanted):
            return False
        return all(self.summed_at(have, oracle.hops_at(hops, x), each) for hops, each in zip(end[1:], wanted))

    def grown_at(self, claim, rows, x):
        if claim.kind not in ("answers", "needs", "spreads") or not rows:
            return False
        place = x + 1 if claim.kind == "spreads" and claim.way == "up" else x
        return rows[-1][0] == claim.function and rows[-1][1] <= place <= rows[-1][2]

    def barred_at(self, rows, index):
        if not rows or not oracle.is_number(index) or not 0 <= index < len(self.rules.told):
            return False
        clause = self.rules.told[index]
        f, first, last, _ = rows[-1]
        return clause.kind == "refuses" and clause.function == f and first == last and first in members(clause.places)

    def ringed_at(self, have, hops):
        if not isinstance(hops, (tuple, list)) or not hops or not oracle.parted(hops[0], 5):
            return False
        if oracle.cost_of(self.rules, hops[0], self.known) is None:
            return False
        start = oracle.call(hops[0][1], hops[0][2])
        if not oracle.chained(self.rules, hops, start, start, have, self.known):
            return False
        return sum(self.known[tuple(hop)] for hop in hops) < 0

    def summed_at(self, have, hops, wanted):
        start, goal, number = wanted
        if not oracle.chained(self.rules, hops, start, goal, have, self.known):
            return False
        return sum(self.known[tuple(hop)] for hop in hops) <= number

    def is_derivation(self, claim, places, parts):
        if not isinstance(parts, (tuple, list)):
            return False
        shown = []
        for part in parts:
            if not oracle.parted(part, 4) or not oracle.is_number(part[0]) or not oracle.is_number(part[1]):
                return False
            if part[1] - part[0] > 1000 or not part[0] <= part[1] or part[0] < 0 or (shown and part[0] <= shown[-1]):
                return False
            shown.extend(range(part[0], part[1] + 1))
        if shown != members(places) or not places.within(asks(self.rules, claim)):
            return False
        return all(self.right_at(claim, part[2], part[3], x) for part in parts for x in range(part[0], part[1] + 1))


def derived(seed, many, low=5, high=20, most=7):
    for chance, rules in small_worlds(seed, many, low, high, most):
        claim = some_clause(chance, rules.functions, rules.last, most=7)
        if rules.told and chance.random() < 0.5:
            claim = chance.choice(rules.told)
        if chance.random() < 0.5:
            kept = [clause for clause in rules.told if clause.kind not in ("answers", "refuses")]
            rules = Rules(rules.functions, rules.last, kept)
        yield chance, rules, claim, holds(rules, claim), derivation(rules, claim)


class Derivations(unittest.TestCase):
    def test_each_part_is_right_at_every_x(self):
        found = {}
        for low, high, most in ((0, 9, 9), (10, 22, 5)):
            for _, rules, claim, places, parts in derived(81 + low, 900, low, high, most):
                plain = Plainly(rules)
                self.assertIs(type(parts), tuple)
                for part in parts:
                    self.assertEqual([type(each) for each in part], [int, int, tuple, tuple])
                    self.assertTrue(all(type(row) is tuple for row in part[2]))
                    self.assertTrue(all(type(hops) is tuple for hops in part[3][1:]) or part[3][0] == "bar")
                    for x in range(part[0], part[1] + 1):
                        self.assertTrue(plain.right_at(claim, part[2], part[3], x), (rules.told, claim.text(), part, x))
                    key = part[3][0]
                    found[key] = found.get(key, 0) + 1
                self.assertTrue(plain.is_derivation(claim, places, parts))
                self.assertIs(is_derivation(rules, claim, places, parts), True)
                self.assertIs(is_derivation(rules, claim, places, as_lists(parts)), True)
        self.assertEqual({key for key, many in found.items() if many > 30}, {"bar", "ring", "grown", "sum", "sums"}, found)

    def test_parts_changed_by_one_thing(self):
        right = 0
        for chance, rules, claim, places, parts in derived(82, 1200):
            plain = Plainly(rules)
            for _ in range(8):
                other = changed(chance, parts)
                among = places
                if isinstance(other, (tuple, list)) and chance.random() < 0.7:
                    # The places as the changed parts tell them, so that the parts themselves are looked at.
                    told = [part for part in other if oracle.parted(part, 4) and all(map(oracle.is_number, part[:2]))]
                    among = Places([(p[0], p[1]) for p in told if 0 <= p[0] <= p[1] <= 40])
                wanted = plain.is_derivation(claim, among, other)
                self.assertIs(is_derivation(rules, claim, among, other), wanted, (rules.told, claim.text(), other))
                right += wanted and other != parts
        self.assertGreater(right, 100)

    def test_parts_of_other_claims_and_ends(self):
        for chance, rules, claim, places, parts in derived(83, 400):
            plain = Plainly(rules)
            other = some_clause(chance, rules.functions, rules.last, most=7)
            for each in (other, claim.negated(), claim.mirrored(rules.last), claim.moved(1)):
                if each.places.within(Places([(0, rules.last)])):
                    wanted = plain.is_derivation(each, places, parts)
                    self.assertIs(is_derivation(rules, each, places, parts), wanted)
            for end in (("grown",), ("bar", 0), ("ring", ()), ("sum", ()), ("sums", (), ()), ("sum", (), ()), ("sums", ())):
                told = [(first, last, rows, end) for first, last, rows, _ in parts]
                self.assertIs(is_derivation(rules, claim, places, told), plain.is_derivation(claim, places, told))

    def test_parts_longer_shorter_left_out_doubled_exchanged_and_cut(self):
        for chance, rules, claim, places, parts in derived(84, 700):
            plain = Plainly(rules)
            if not parts:
                continue
            at = chance.randrange(len(parts))
            first, last, rows, end = parts[at]
            ahead, behind = list(parts[:at]), list(parts[at + 1:])
            told = [ahead + [(low, high, rows, end)] + behind for low, high in
                    ((first - 1, last), (first + 1, last), (first, last - 1), (first, last + 1), (last, first))]
            told += [ahead + behind, ahead + [parts[at]] * 2 + behind, list(parts[::-1]), ahead + [parts[at]]]
            if first < last:
                middle = chance.randint(first, last - 1)
                told.append(ahead + [(first, middle, rows, end), (middle + 1, last, rows, end)] + behind)
                self.assertIs(is_derivation(rules, claim, places, told[-1]), True)
                told.append(ahead + [(first, middle, rows, end), (middle, last, rows, end)] + behind)
            for other in told:
                shown = {x for part in other for x in range(part[0], part[1] + 1) if x >= 0}
                for among in (places, places_of(shown)):
                    self.assertIs(is_derivation(rules, claim, among, other), plain.is_derivation(claim, among, other))

    def test_other_places(self):
        for chance, rules, claim, places, parts in derived(85, 300):
            for other in (places | Places([(rules.last, rules.last)]), places - Places([(3, 3)]), places ^ Places([(2, 4)])):
                self.assertIs(is_derivation(rules, claim, other, parts), other == places)

    def test_any_values(self):
        rules = Rules(["f"], 9, [Answers("f", Places([(0, 9)])), Bound("f", Places([(0, 9)]), "<=", 1, 0)])
        claim = Bound("f", Places([(0, 4)]), "<=", 1, 3)
        rows = (("f", 0, 9, ("answers", 0)),)
        part = (0, 4, rows, ("sum", ((1, None, X, "f", X),)))
        places = Places([(0, 4)])
        self.assertIs(is_derivation(rules, claim, places, [part]), True)
        plain = Plainly(rules)
        for value in any_values():
            self.assertIs(is_derivation(rules, claim, places, value), False)
            self.assertIs(is_derivation(rules, claim, Places(), value), isinstance(value, (tuple, list)) and not value)
            self.assertIs(is_derivation(rules, claim, places, [part, value]), False)
            for at in range(4):
                other = list(part)
                other[at] = value
                for among in (places, Places([(1, 4)])):
                    self.assertIs(is_derivation(rules, claim, among, [other]), plain.is_derivation(claim, among, [other]))
            for end in ((value, part[3][1]), ("sum", value), ("sum", (value,)), (value,), ("bar", value), ("ring", value)):
                self.assertIs(is_derivation(rules, claim, places, [(0, 4, rows, end)]), False)

    def test_ends_of_other_kinds(self):
        every = Places([(0, 9)])
        told = [Answers("f", every), Bound("f", every, "=", 1, 0), Needs("g", Places([(0, 5)]), "f"), Answers("g", Places([(7, 9)]))]
        rules = Rules(["f", "g"], 9, told)
        rows = [("f", 0, 9, ("answers", 0))]
        up, down = [(1, None, X, "f", X)], [(1, "f", X, None, X)]
        wanted = {("sum", "<="): up, ("sum", ">="): down, ("sums", "="): None}
        for sign in ("<=", ">=", "="):
            claim = Bound("f", every, sign, 1, 0)
            for end in (("sum", up), ("sum", down), ("sums", up, down), ("sums", down, up), ("sums", up, up), ("sums", up)):
                right = end == ("sums", up, down) if sign == "=" else end == ("sum", wanted[("sum", sign)])
                self.assertIs(is_derivation(rules, claim, every, [(0, 9, rows, end)]), right, (sign, end))
        needs = [("f", 0, 9, ("answers", 0)), ("g", 0, 5, ("needs", 2))]
        for claim, right in ((Answers("g", Places([(0, 5)])), True), (Needs("g", Places([(0, 5)]), "f"), True)):
            asked = needs if claim.kind == "answers" else [("f", X, X, ("asked",)), ("g", X, X, ("needs", 2))]
            places = Places([(0, 5)])
            self.assertIs(is_derivation(rules, claim, places, [(0, 5, asked, ("grown",))]), right)
            self.assertIs(is_derivation(rules, claim, places, [(0, 5, asked[:1], ("grown",))]), False)
            self.assertIs(is_derivation(rules, claim, places, [(0, 5, asked[::-1], ("grown",))]), False)
            self.assertIs(is_derivation(rules, claim, places, [(0, 5, asked + needs[:1], ("grown",))]), False)
        bar = Rules(["f", "g"], 9, [Answers("f", every), Answers("g", every), Refuses("f", Places([(4, 4)]))])
        both = [("f", 4, 4, ("answers", 0)), ("g", 4, 4, ("answers", 1))]
        for rows, right in ((both[::-1], True), (both[:1], True), (both, False), ([], False)):
            self.assertIs(is_derivation(bar, Refuses("g", every), every, [(0, 9, rows, ("bar", 2))]), right)
            for index in (-1, 0, 3, True, None):
                self.assertIs(is_derivation(bar, Refuses("g", every), every, [(0, 9, rows, ("bar", index))]), False)
        self.assertIs(is_derivation(bar, Refuses("g", every), every, [(0, 9, [("f", 4, 5, ("answers", 0))], ("bar", 2))]), False)

    def test_far_parts(self):
        every = Places([(0, FAR)])
        told = [Spreads("f", every, "up"), Step("f", every, "<=", -1), Bound("f", Places([(FAR, FAR)]), ">=", 0, 0)]
        rules = Rules(["f", "g"], FAR, told + [Bound("f", every, "<=", 0, 5), Needs("g", every, "f"), Refuses("g", Places([(9, 9)]))])
        claim = Refuses("f", every)
        places = holds(rules, claim)
        self.assertEqual(places.text(), f"0-{FAR - 6}")
        hops = [(3, None, X, "f", X), (1, "f", X, "f", FAR), (2, "f", FAR, None, FAR)]
        rows = [("f", X, X, ("asked",)), ("f", ("x", 1), FAR, ("up", 0))]
        bar = [("f", X, X, ("asked",)), ("f", ("x", 1), 9, ("up", 0)), ("g", 9, 9, ("needs", 4))]
        for upto, wanted in ((FAR - 6, True), (FAR - 5, False)):
            among = Places([(0, upto)])
            self.assertIs(is_derivation(rules, claim, among, [(0, upto, rows, ("ring", hops))]), wanted)
            self.assertIs(is_derivation(rules, claim, among, [(0, 8, bar, ("bar", 5)), (9, upto, rows, ("ring", hops))]), wanted)
        self.assertIs(is_derivation(rules, claim, Places([(0, 9)]), [(0, 9, bar, ("bar", 5))]), False)
        self.assertIs(is_derivation(rules, claim, places, derivation(rules, claim)), True)
        wanted = Pair("g", every, "<=", "f", 0, 0)
        self.assertIs(is_derivation(rules, wanted, holds(rules, wanted), derivation(rules, wanted)), True)


if __name__ == "__main__":
    unittest.main()
