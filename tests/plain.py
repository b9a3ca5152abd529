"""Plain reckoning, place by place, by the table of point 4: what the tests hold the program against."""

import random

from openranges.clauses import Answers, Bound, Needs, Pair, Refuses, Spreads, Step
from openranges.lines import Line
from openranges.places import Places
from openranges.programs import Program

SIGNS = ("<=", ">=", "=")


def fits(one, sign, other):
    return {"<=": one <= other, ">=": one >= other, "=": one == other}[sign]


def members(places):
    return [x for first, last in places.stretches for x in range(first, last + 1)]


def places_of(xs):
    return Places([(x, x) for x in xs])


def speaks_of(clause):
    """All x of which a clause says something."""
    among = set(members(clause.places))
    return sorted(x for x in among if clause.kind not in ("spreads", "step") or x + 1 in among)


def kept_at(clause, outcomes, x):
    """Whether a clause is kept at x, where outcomes are dicts from functions to lists of answers and None."""
    here = outcomes[clause.function]
    if clause.kind == "answers":
        return here[x] is not None
    if clause.kind == "refuses":
        return here[x] is None
    if clause.kind == "needs":
        return outcomes[clause.other][x] is None or here[x] is not None
    if clause.kind == "spreads":
        one, other = (x, x + 1) if clause.way == "up" else (x + 1, x)
        return here[one] is None or here[other] is not None
    if clause.kind == "bound":
        return here[x] is None or fits(here[x], clause.sign, clause.slope * x + clause.height)
    if clause.kind == "pair":
        beside = outcomes[clause.other][x]
        if here[x] is None or beside is None:
            return True
        return fits(here[x], clause.sign, beside + clause.slope * x + clause.height)
    return here[x] is None or here[x + 1] is None or fits(here[x + 1], clause.sign, here[x] + clause.height)


def broken(clause, outcomes):
    """All x at which a clause is broken; places behind the last one do not count."""
    last = len(outcomes[clause.function]) - 1
    beyond = 1 if clause.kind in ("spreads", "step") else 0
    return [x for x in speaks_of(clause) if x + beyond <= last and not kept_at(clause, outcomes, x)]


def told(outcomes):
    """Outcomes as pieces of one place."""
    pieces = {}
    for word, row in outcomes.items():
        pieces[word] = [(x, x, None if answer is None else Line(0, answer)) for x, answer in enumerate(row)]
    return pieces


def program_of(outcomes):
    return Program(len(next(iter(outcomes.values()))) - 1, told(outcomes))


def outcomes_of(program):
    return {word: [program(word, x) for x in range(program.last + 1)] for word in program.functions}


def some_outcomes(chance, functions, last, most=3, refused=0.3):
    """Outcomes with stretches of refusals and of straight answers."""
    outcomes = {}
    for word in functions:
        row = []
        while len(row) <= last:
            many = chance.randint(1, 4)
            slope, start = chance.randint(-2, 2), chance.randint(-most, most)
            if chance.random() < refused:
                row += [None] * many
            else:
                row += [start + slope * k for k in range(many)]
        outcomes[word] = row[:last + 1]
    return outcomes


def some_places(chance, last, beyond=0):
    """Places up to last, or somewhat above it."""
    stretches = []
    for _ in range(chance.choice((0, 1, 1, 1, 2, 3))):
        first = chance.randint(0, last + beyond)
        stretches.append((first, min(last + beyond, first + chance.randint(0, last))))
    return Places(stretches)


def some_clause(chance, functions, last, kinds=None, beyond=0, most=3):
    kind = chance.choice(kinds or ("answers", "refuses", "needs", "spreads", "bound", "pair", "step"))
    if len(functions) == 1 and kind in ("needs", "pair"):
        kind = "step" if kind == "pair" else "spreads"
    function, *others = chance.sample(list(functions), min(2, len(functions)))
    places = some_places(chance, last, beyond)
    sign = chance.choice(SIGNS)
    slope, height = chance.choice((chance.randint(-2, 2), chance.randint(-9, 9))), chance.randint(-most, most)
    if kind == "answers":
        return Answers(function, places)
    if kind == "refuses":
        return Refuses(function, places)
    if kind == "needs":
        return Needs(function, places, others[0])
    if kind == "spreads":
        return Spreads(function, places, chance.choice(("up", "down")))
    if kind == "bound":
        return Bound(function, places, sign, slope, height)
    if kind == "pair":
        return Pair(function, places, sign, others[0], slope, height)
    return Step(function, places, sign, height)


def chance_of(seed):
    return random.Random(seed)
