"""Rules and tables turned: what is asked of rules told otherwise must be what was told, turned likewise."""

from openranges.clauses import Answers, Bound, Needs, Pair, Refuses, Spreads, Step
from openranges.places import Places
from openranges.rules import Rules


def negated(rules):
    return Rules(rules.functions, rules.last, [clause.negated() for clause in rules.told])


def multiplied(rules, factor):
    return Rules(rules.functions, rules.last, [clause.times(factor) for clause in rules.told])


def mirrored(rules):
    return Rules(rules.functions, rules.last, [clause.mirrored(rules.last) for clause in rules.told])


def moved(rules, by):
    """The rules from the place by on; ahead of it nothing is told."""
    return Rules(rules.functions, rules.last + by, [clause.moved(by) for clause in rules.told])


def line_turned(line, turn):
    return None if line is None else turn(line)


def table_negated(pieces):
    turn = [(first, last, name, high, low) for first, last, name, low, high in pieces]
    return [(*piece[:3], *[line_turned(line, lambda told: -told) for line in piece[3:]]) for piece in turn]


def table_multiplied(pieces, factor):
    return [(*piece[:3], *[line_turned(line, lambda told: told * factor) for line in piece[3:]]) for piece in pieces]


def table_mirrored(pieces, end):
    rows = []
    for first, last, name, low, high in pieces:
        ends = [line_turned(line, lambda told: told.mirrored(end)) for line in (low, high)]
        rows.append((end - last, end - first, name, *ends))
    return rows[::-1]


def table_moved(pieces, by):
    rows = []
    for first, last, name, low, high in pieces:
        rows.append((first + by, last + by, name, *[line_turned(line, lambda told: told.moved(by)) for line in (low, high)]))
    return rows


def with_places(clause, places):
    """The same clause on other places."""
    made = {
        "answers": lambda: Answers(clause.function, places),
        "refuses": lambda: Refuses(clause.function, places),
        "needs": lambda: Needs(clause.function, places, clause.other),
        "spreads": lambda: Spreads(clause.function, places, clause.way),
        "bound": lambda: Bound(clause.function, places, clause.sign, clause.slope, clause.height),
        "pair": lambda: Pair(clause.function, places, clause.sign, clause.other, clause.slope, clause.height),
        "step": lambda: Step(clause.function, places, clause.sign, clause.height),
    }
    return made[clause.kind]()


def with_sign(clause, sign):
    """The same clause about numbers with another sign."""
    arguments = {"bound": ("slope", "height"), "pair": ("other", "slope", "height"), "step": ("height",)}[clause.kind]
    return type(clause)(clause.function, clause.places, sign, *[getattr(clause, name) for name in arguments])


def cut_at(clause, place):
    """Two clauses that together tell what one does: up to a place, and from it (or from behind it) on."""
    # What is told of x and x + 1 needs both of them on one side.
    begin = place if clause.kind in ("spreads", "step") else place + 1
    behind = clause.places - Places([(0, begin - 1)] if begin else [])
    return [with_places(clause, clause.places & Places([(0, place)])), with_places(clause, behind)]


def _parts(chance, clause):
    """Clauses that together tell what one does."""
    parts = [clause]
    if clause.kind in ("bound", "pair", "step") and clause.sign == "=" and chance.random() < 0.6:
        parts = [with_sign(clause, "<="), with_sign(clause, ">=")]
    if bool(clause.places) and chance.random() < 0.5:
        among = clause.places.stretches
        parts = [half for part in parts for half in cut_at(part, chance.randint(among[0][0], among[-1][1]))]
    return parts + parts[:chance.choice((0, 0, 1))]


def told_otherwise(chance, rules):
    """Rules that say the same: in another order, some of them twice, = as both signs, stretches cut."""
    told = []
    for rest, clause in zip(range(len(rules.told) - 1, -1, -1), rules.told):
        parts = _parts(chance, clause)
        told += parts if len(told) + len(parts) + rest <= 60 else [clause]
    chance.shuffle(told)
    return Rules(rules.functions, rules.last, told)
