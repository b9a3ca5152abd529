"""What the rules of a small world mean, reckoned over all its places by points 4 to 7."""

import itertools

from openranges.clauses import Bound
from openranges.rules import Rules
from tests.plain import kept_at, members, some_clause, speaks_of


def grown(rules, asked):
    """The grown set of the asked calls."""
    have = set(asked)
    while True:
        more = set()
        for clause in rules.told:
            if clause.kind == "answers":
                more |= {(clause.function, x) for x in members(clause.places)}
            if clause.kind == "needs":
                more |= {(clause.function, x) for x in members(clause.places) if (clause.other, x) in have}
            if clause.kind == "spreads":
                for x in speaks_of(clause):
                    one, other = (x, x + 1) if clause.way == "up" else (x + 1, x)
                    if (clause.function, one) in have:
                        more.add((clause.function, other))
        if more <= have:
            return have
        have |= more


def hops(rules, last_only=False):
    """All hops by the table of point 7, with their costs; of steps those by one place alone, if wanted."""
    found = {}
    for index, clause in enumerate(rules.told):
        if clause.kind not in ("bound", "pair", "step"):
            continue
        f = clause.function
        among = set(members(clause.places))
        for p in among:
            if clause.kind == "step":
                q = p + 1
                while q in among:
                    if clause.sign != ">=":
                        found[(index, f, p, f, q)] = clause.height * (q - p)
                    if clause.sign != "<=":
                        found[(index, f, q, f, p)] = -clause.height * (q - p)
                    if last_only:
                        break
                    q += 1
                continue
            g = clause.other if clause.kind == "pair" else None
            cost = clause.slope * p + clause.height
            if clause.sign != ">=":
                found[(index, g, p, f, p)] = cost
            if clause.sign != "<=":
                found[(index, f, p, g, p)] = -cost
    return found


def call(function, place):
    return None if function is None else (function, place)


def costs(rules, have):
    """Least costs between all calls of a set and nought, or None if there is a ring below 0."""
    calls = [None, *sorted(have)]
    least = {(one, one): 0 for one in calls}
    for (_, f, p, g, q), cost in hops(rules, True).items():
        start, goal = call(f, p), call(g, q)
        if (start is None or start in have) and (goal is None or goal in have):
            if cost < least.get((start, goal), cost + 1):
                least[(start, goal)] = cost
    for middle in calls:
        for start in calls:
            if (start, middle) not in least:
                continue
            for goal in calls:
                if (middle, goal) in least:
                    cost = least[(start, middle)] + least[(middle, goal)]
                    if cost < least.get((start, goal), cost + 1):
                        least[(start, goal)] = cost
    if any(least[(one, one)] < 0 for one in calls):
        return None
    return least


def barred(rules, have):
    found = []
    for index, clause in enumerate(rules.told):
        if clause.kind == "refuses":
            for x in members(clause.places):
                if (clause.function, x) in have:
                    found.append((x, rules.functions.index(clause.function), index))
    if not found:
        return None
    x, at, index = min(found)
    return (index, rules.functions[at], x)


class World:
    """The answers for one set of rules, each asked set reckoned once."""

    def __init__(self, rules):
        self.rules = rules
        self.known = {}

    def asked(self, calls):
        """The grown set and the least costs; None for the costs if no let program answers the calls."""
        key = frozenset(calls)
        if key not in self.known:
            have = grown(self.rules, key)
            found = None if barred(self.rules, have) is not None else costs(self.rules, have)
            self.known[key] = (have, found)
        return self.known[key]

    def can_answer(self, calls):
        return self.asked(calls)[1] is not None

    def status(self, one):
        """The status of a call."""
        if one in self.asked([])[0]:
            return "answers"
        return "open" if self.can_answer([one]) else "refuses"

    def range_at(self, one):
        """The range of a call, or None if no let program answers it."""
        least = self.asked([one])[1]
        if least is None:
            return None
        low = least.get((one, None))
        return (None if low is None else -low, least.get((None, one)))

    def fixed(self, function):
        """The places at which all let programs have one outcome."""
        found = []
        for x in range(self.rules.last + 1):
            ends = self.range_at((function, x))
            if ends is None or (self.status((function, x)) == "answers" and ends[0] is not None and ends[0] == ends[1]):
                found.append(x)
        return found

    def excess(self, shape, x):
        """How far chains get above a shape with the height 0 at x: an integer, "none" or None for no answers there."""
        f = shape.function
        start, goal = (None, (f, x)) if shape.kind == "bound" else ((f, x), (f, x + 1))
        line = 0 if shape.kind == "step" else shape.slope * x
        if shape.kind == "pair":
            start, goal = (shape.other, x), (f, x)
        if shape.sign == ">=":
            start, goal, line = goal, start, -line
        least = self.asked([one for one in (start, goal) if one is not None])[1]
        if least is None:
            return None
        return least[(start, goal)] - line if (start, goal) in least else "none"

    def strongest(self, shape):
        """What point 19 says of a shape."""
        found = [(x, self.excess(shape, x)) for x in speaks_of(shape)]
        found = [(x, excess) for x, excess in found if excess is not None]
        endless = [x for x, excess in found if excess == "none"]
        if endless:
            return ("none", None, endless[0])
        if not found:
            return ("all", None, None)
        most = max(excess for _, excess in found)
        return ("number", most if shape.sign == "<=" else -most, [x for x, excess in found if excess == most][0])

    def kept(self, claim, x):
        """Whether every let program keeps a claim at x."""
        if not self.can_answer([]):
            return True
        f = claim.function
        if claim.kind == "answers":
            return (f, x) in self.asked([])[0]
        if claim.kind == "refuses":
            return not self.can_answer([(f, x)])
        if claim.kind in ("needs", "spreads"):
            if claim.kind == "needs":
                source, wanted = (claim.other, x), (f, x)
            else:
                source, wanted = ((f, x), (f, x + 1)) if claim.way == "up" else ((f, x + 1), (f, x))
            return not self.can_answer([source]) or wanted in self.asked([source])[0]
        if claim.kind == "bound":
            start, goal, number = None, (f, x), claim.slope * x + claim.height
        elif claim.kind == "pair":
            start, goal, number = (claim.other, x), (f, x), claim.slope * x + claim.height
        else:
            start, goal, number = (f, x), (f, x + 1), claim.height
        found = self.asked([one for one in (start, goal) if one is not None])[1]
        if found is None:
            return True
        below = found.get((start, goal))
        above = found.get((goal, start))
        shown = {"<=": below is not None and below <= number, ">=": above is not None and above <= -number}
        shown["="] = shown["<="] and shown[">="]
        return shown[claim.sign]

    def holds(self, claim):
        return [x for x in speaks_of(claim) if self.kept(claim, x)]


def some_rules(chance, functions, last, many, most=4):
    return Rules(functions, last, [some_clause(chance, functions, last, most=most) for _ in range(many)])


def bounded_rules(chance, functions, last, many, top):
    """Rules whose answers are all from 0 to top."""
    told = [some_clause(chance, functions, last, most=2) for _ in range(many)]
    every = some_clause(chance, functions, last).places
    for f in functions:
        every = type(every)([(0, last)])
        told += [Bound(f, every, ">=", 0, 0), Bound(f, every, "<=", 0, top)]
    return Rules(functions, last, told)


def all_let(rules, top):
    """All let programs of bounded rules, as outcomes."""
    values = [None, *range(top + 1)]
    places = range(rules.last + 1)
    found = []
    for row in itertools.product(values, repeat=len(rules.functions) * (rules.last + 1)):
        outcomes = {}
        for at, f in enumerate(rules.functions):
            outcomes[f] = list(row[at * len(places):(at + 1) * len(places)])
        if all(kept_at(clause, outcomes, x) for clause in rules.told for x in speaks_of(clause)):
            found.append(outcomes)
    return found


def is_number(value):
    return type(value) is int


def parted(value, many):
    return isinstance(value, (tuple, list)) and len(value) == many


def first_wrong(rules, rows, asked):
    """The index of the first row that is not right by point 14, or -1; 0 for what is no list or tuple."""
    if not isinstance(rows, (tuple, list)):
        return 0
    above = set()
    for index, row in enumerate(rows):
        if not right_row(rules, row, asked, above):
            return index
        above |= {(row[0], x) for x in range(row[1], row[2] + 1)}
    return -1


def right_row(rules, row, asked, above):
    if not parted(row, 4) or not isinstance(row[0], str) or row[0] not in rules.functions:
        return False
    f, first, last, reason = row
    if not is_number(first) or not is_number(last) or first > last or last - first > 1000:
        return False
    if parted(reason, 1):
        return reason[0] == "asked" and first == last and (f, first) in asked
    if not parted(reason, 2) or not is_number(reason[1]) or not 0 <= reason[1] < len(rules.told):
        return False
    name, clause = reason[0], rules.told[reason[1]]
    among = set(members(clause.places))
    wanted = set(range(first, last + 1))
    if clause.function != f or not isinstance(name, str):
        return False
    if name == "answers":
        return clause.kind == "answers" and wanted <= among
    if name == "needs":
        return clause.kind == "needs" and wanted <= among and all((clause.other, x) in above for x in wanted)
    if clause.kind != "spreads" or name != clause.way:
        return False
    source = first - 1 if name == "up" else last + 1
    return wanted | {source} <= among and (f, source) in above


def cost_of(rules, value, known):
    """The cost of a hop, or None for any other value; known are all hops of the rules."""
    if not parted(value, 5) or not all(is_number(value[at]) for at in (0, 2, 4)):
        return None
    if not all(value[at] is None or isinstance(value[at], str) for at in (1, 3)):
        return None
    return known.get(tuple(value))


def chained(rules, value, start, goal, have, known):
    """Whether any value is a chain from start to goal that lies in a set of calls."""
    if not isinstance(value, (tuple, list)):
        return False
    at = start
    for hop in value:
        if cost_of(rules, hop, known) is None or call(hop[1], hop[2]) != at:
            return False
        at = call(hop[3], hop[4])
        if not calls_of(hop) <= have:
            return False
    return at == goal


def calls_of(hop):
    """The calls that a hop has."""
    _, f, p, g, q = hop
    if f == g:
        return {(f, x) for x in range(min(p, q), max(p, q) + 1)}
    return {one for one in (call(f, p), call(g, q)) if one is not None}


def at_spot(value, x):
    """The place of any value that is a spot; any other value stays."""
    if parted(value, 2) and isinstance(value[0], str) and value[0] == "x" and is_number(value[1]):
        return x + value[1]
    return value if is_number(value) else None


def at_x(item, many, spots, x):
    """A row or hop with its spots replaced, if it has as many parts; any other value stays."""
    if not parted(item, many):
        return item
    return tuple([at_spot(part, x) if at in spots else part for at, part in enumerate(item)])


def rows_at(rows, x):
    return [at_x(row, 4, (1, 2), x) for row in rows] if isinstance(rows, (tuple, list)) else rows


def hops_at(hops_told, x):
    return [at_x(hop, 5, (2, 4), x) for hop in hops_told] if isinstance(hops_told, (tuple, list)) else hops_told
