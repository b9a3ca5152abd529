"""Rules with places up to 10 ** 30, whose clauses are read off a program, so that it is let."""

from openranges.clauses import Answers, Bound, Needs, Pair, Refuses, Spreads, Step
from openranges.lines import Line
from openranges.places import Places
from openranges.programs import Program, mined
from openranges.rules import Rules
from tests.values import FAR

FUNCTIONS = ("f", "g", "h")
KINDS = ("answers", "refuses", "needs", "spreads", "bound", "pair", "step")


def some_program(chance, functions=FUNCTIONS, last=FAR, many=6):
    told = {}
    for word in functions:
        begins = sorted({0, *[chance.randint(0, last) for _ in range(many)]})
        ends = [begin - 1 for begin in begins[1:]] + [last]
        told[word] = []
        for begin, end in zip(begins, ends):
            line = Line(chance.randint(-3, 3), chance.randint(-last, last)) if chance.random() < 0.75 else None
            told[word].append((begin, end, line))
    return Program(last, told)


def some_stretches(chance, points, most=2):
    pairs = [sorted((chance.choice(points), chance.choice(points))) for _ in range(chance.randint(1, most))]
    return Places([tuple(pair) for pair in pairs])


def read_off(chance, program, places):
    """A clause of some kind on some of these places that a program keeps, or None."""
    f, *others = chance.sample(list(program.functions), len(program.functions))
    kind = chance.choice(KINDS if others else ("answers", "refuses", "spreads", "bound", "step"))
    sign = chance.choice(("<=", ">="))
    if kind == "answers":
        return Answers(f, places & program.answered(f))
    if kind == "refuses":
        return Refuses(f, places - program.answered(f))
    if kind == "needs":
        return Needs(f, places - program.breaches(Needs(f, places, others[0])), others[0])
    if kind == "spreads":
        way = chance.choice(("up", "down"))
        return Spreads(f, places - program.breaches(Spreads(f, places, way)), way)
    slope = chance.randint(-3, 3)
    if kind == "bound":
        return mined([program], Bound(f, places, sign, slope, 0))
    if kind == "pair":
        return mined([program], Pair(f, places, sign, others[0], slope, 0))
    return mined([program], Step(f, places, sign, 0))


def some_large(chance, many, functions=FUNCTIONS, last=FAR, points=8):
    """A program, and rules that it keeps."""
    program = some_program(chance, functions, last)
    ends = [0, last, *[chance.randint(0, last) for _ in range(points)]]
    ends += [min(last, end + 1) for end in ends[2:5]]
    told = []
    while len(told) < many:
        clause = read_off(chance, program, some_stretches(chance, ends))
        if clause is not None:
            told.append(clause)
    return program, Rules(list(functions), last, told)


def free_clause(chance, rules):
    """A clause of some kind that need not be kept."""
    f, *others = chance.sample(list(rules.functions), len(rules.functions))
    places = some_stretches(chance, [0, rules.last, *[chance.randint(0, rules.last) for _ in range(4)]])
    sign = chance.choice(("<=", ">=", "="))
    slope, height = chance.randint(-3, 3), chance.choice((0, chance.randint(-rules.last, rules.last)))
    made = [Answers(f, places), Refuses(f, places), Spreads(f, places, "up"), Spreads(f, places, "down")]
    made += [Bound(f, places, sign, slope, height), Step(f, places, sign, chance.choice((slope, height)))]
    if others:
        made += [Needs(f, places, others[0]), Pair(f, places, sign, others[0], slope, height)]
    return chance.choice(made)


def with_bounds(chance, program, rules, often):
    """The rules with bounds on both sides of most functions, which the program keeps."""
    every = Places([(0, rules.last)])
    told = list(rules.told)
    for f in program.functions:
        for sign in ("<=", ">="):
            bound = mined([program], Bound(f, every, sign, chance.randint(-1, 1), 0))
            if bound is not None and chance.random() < often:
                told.append(bound)
    return Rules(rules.functions, rules.last, told)
