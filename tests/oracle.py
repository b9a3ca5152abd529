"""What the rules of a small world mean, reckoned over all its places by points 4 to 7."""

import itertools

from openranges.clauses import Bound
from openranges.rules import Rules
from tests.plain import kept_at, members, some_clause, speaks_of


def grown(rules, asked):
    """The grown set of the asked calls."""
    have = set(asked)
    while True:
        more = set()
        for clause in rules.told:
            if clause.kind == "answers":
                more |= {(clause.function, x) for x in members(clause.places)}
            if clause.kind == "needs":
                more |= {(clause.function, x) for x in members(clause.places) if (clause.other, x) in have}
            if clause.kind == "spreads":
                for x in speaks_of(clause):
                    one, other = (x, x + 1) if clause.way == "up" else (x + 1, x)
                    if (clause.function, one) in have:
                        more.add((clause.function, other))
        if more <= have:
            return have
        have |= more


def hops(rules, last_only=False):
    """All hops by the table of point 7, with their costs; of steps those by one place alone, if wanted."""
    found = {}
    for index, clause in enumerate(rules.told):
        if clause.kind not in ("bound", "pair", "step"):
            continue
        f = clause.function
        among = set(members(clause.places))
        for p in among:
            if clause.kind == "step":
                q = p + 1
                while q in among:
                    if clause.sign != ">=":
                        found[(index, f, p, f, q)] = clause.height * (q - p)
                    if clause.sign != "<=":
                        found[(index, f, q, f, p)] = -clause.height * (q - p)
                    if last_only:
                        break
                    q += 1
                continue
            g = clause.other if clause.kind == "pair" else None
            cost = clause.slope * p + clause.height
            if clause.sign != ">=":
                found[(index, g, p, f, p)] = cost
            if clause.sign != "<=":
                found[(index, f, p, g, p)] = -cost
    return found


def call(function, place):
    return None if function is None else (function, place)


def costs(rules, have):
    """Least costs between all calls of a set and nought, or None if there is a ring below 0."""
    calls = [None, *sorted(have)]
    least = {(one, one): 0 for one in calls}
    for (_, f, p, g, q), cost in hops(rules, True).items():
        start, goal = call(f, p), call(g, q)
        if (start is None or start in have) and (goal is None or goal in have):
            if cost < least.get((start, goal), cost + 1):
                least[(start, goal)] = cost
    for middle in calls:
        for start in calls:
            if (start, middle) not in least:
                continue
            for goal in calls:
                if (middle, goal) in least:
                    cost = least[(start, middle)] + least[(middle, goal)]
                    if cost < least.get((start, goal), cost + 1):
                        least[(start, goal)] = cost
    if any(least[(one, one)] < 0 for one in calls):
        return None
    return least


def barred(rules, have):
    found = []
    for index, clause in enumerate(rules.told):
        if clause.kind == "refuses":
            for x in members(clause.places):
                if (clause.function, x) in have:
                    found.append((x, rules.functions.index(clause.function), index))
    if not found:
        return None
    x, at, index = min(found)
    return (index, rules.functions[at], x)


class World:
    """The answers for one set of rules, each asked set reckoned once."""

    def __init__(self, rules):
        self.rules = rules
        self.known = {}

    def asked(self, calls):
        """The grown set and the least costs; None for the costs if no let program answers the calls."""
        key = frozenset(calls)
        if key not in self.known:
            have = grown(self.rules, key)
            found = None if barred(self.rules, have) is not None else costs(self.rules, have)
            self.known[key] = (have, found)
        return self.known[key]

    def can_answer(self, calls):
        return self.asked(calls)[1] is not None

    def kept(self, claim, x):
        """Whether every let program keeps a claim at x."""
        if not self.can_answer([]):
            return True
        f = claim.function
        if claim.kind == "answers":
            return (f, x) in self.asked([])[0]
        if claim.kind == "refuses":
            return not self.can_answer([(f, x)])
        if claim.kind in ("needs", "spreads"):
            if claim.kind == "needs":
                source, wanted = (claim.other, x), (f, x)
            else:
                source, wanted = ((f, x), (f, x + 1)) if claim.way == "up" else ((f, x + 1), (f, x))
            return not self.can_answer([source]) or wanted in self.asked([source])[0]
        if claim.kind == "bound":
            start, goal, number = None, (f, x), claim.slope * x + claim.height
        elif claim.kind == "pair":
            start, goal, number = (claim.other, x), (f, x), claim.slope * x + claim.height
        else:
            start, goal, number = (f, x), (f, x + 1), claim.height
        found = self.asked([one for one in (start, goal) if one is not None])[1]
        if found is None:
            return True
        below = found.get((start, goal))
        above = found.get((goal, start))
        shown = {"<=": below is not None and below <= number, ">=": above is not None and above <= -number}
        shown["="] = shown["<="] and shown[">="]
        return shown[claim.sign]

    def holds(self, claim):
        return [x for x in speaks_of(claim) if self.kept(claim, x)]


def some_rules(chance, functions, last, many, most=4):
    return Rules(functions, last, [some_clause(chance, functions, last, most=most) for _ in range(many)])


def bounded_rules(chance, functions, last, many, top):
    """Rules whose answers are all from 0 to top."""
    told = [some_clause(chance, functions, last, most=2) for _ in range(many)]
    every = some_clause(chance, functions, last).places
    for f in functions:
        every = type(every)([(0, last)])
        told += [Bound(f, every, ">=", 0, 0), Bound(f, every, "<=", 0, top)]
    return Rules(functions, last, told)


def all_let(rules, top):
    """All let programs of bounded rules, as outcomes."""
    values = [None, *range(top + 1)]
    places = range(rules.last + 1)
    found = []
    for row in itertools.product(values, repeat=len(rules.functions) * (rules.last + 1)):
        outcomes = {}
        for at, f in enumerate(rules.functions):
            outcomes[f] = list(row[at * len(places):(at + 1) * len(places)])
        if all(kept_at(clause, outcomes, x) for clause in rules.told for x in speaks_of(clause)):
            found.append(outcomes)
    return found
