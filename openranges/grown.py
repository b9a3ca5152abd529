"""Grown sets: the calls that must be answered with the asked ones, and rows that show why."""

from openranges.errors import NoFunction, NoPlace
from openranges.integers import is_place
from openranges.places import Places


class Grown:
    """A grown set: the Places of each function, and rows that show it, each by the ones above."""

    def __init__(self, have, rows):
        self.have = have
        self.rows = rows

    def functions_at(self, place):
        """The functions whose calls at a place are in the set."""
        return tuple([function for function in self.have if place in self.have[function]])


def check_call(rules, call):
    """Raises NoFunction or NoPlace if a call is not one of the rules."""
    function, place = call
    if function not in rules.functions:
        raise NoFunction(function)
    if not is_place(place) or place > rules.last:
        raise NoPlace(place)


def check_calls(rules, calls):
    """Raises NoFunction or NoPlace for the first call that is not one of the rules."""
    for call in calls:
        check_call(rules, call)


def grown_set(rules, asked):
    """The grown set of some calls."""
    have = {function: Places() for function in rules.functions}
    rows = []
    for index, clause in enumerate(rules.told):
        if clause.kind == "answers":
            _take(have, rows, clause.function, clause.places, ("answers", index))
    unseen = {index: True for index, clause in enumerate(rules.told) if clause.kind in ("needs", "spreads")}
    _ask(rules, have, rows, asked, unseen)
    _grow(rules, have, rows, unseen)
    return Grown(have, rows)


def grown_further(rules, elder, asked):
    """The grown set of the calls of an elder one and some more."""
    have = {function: elder.have[function] for function in elder.have}
    rows = list(elder.rows)
    unseen = {}
    _ask(rules, have, rows, asked, unseen)
    _grow(rules, have, rows, unseen)
    return Grown(have, rows)


def _ask(rules, have, rows, asked, unseen):
    for function, place in asked:
        if _take(have, rows, function, Places([(place, place)]), ("asked",)):
            _mark(rules, function, unseen)


def _grow(rules, have, rows, unseen):
    """Takes what the clauses bring, until they bring nothing more; unseen are those with something new before them."""
    while unseen:
        for index in sorted(list(unseen)):
            clause = rules.told[index]
            del unseen[index]
            name = clause.kind if clause.kind == "needs" else clause.way
            if _take(have, rows, clause.function, _brought(clause, have), (name, index)):
                _mark(rules, clause.function, unseen)


def _mark(rules, function, unseen):
    """Adds the clauses that may bring more, now that the function has more."""
    for index, clause in enumerate(rules.told):
        if clause.kind == "needs" and clause.other == function:
            unseen[index] = True
        elif clause.kind == "spreads" and clause.function == function:
            unseen[index] = True


def _take(have, rows, function, places, reason):
    """Adds what is new of these places, each stretch as a row; whether there was any."""
    new = places - have[function]
    if not bool(new):
        return False
    for first, last in new.stretches:
        rows.append((function, first, last, reason))
    have[function] = have[function] | new
    return True


def _brought(clause, have):
    """The places that a needs-clause or a spreads-clause brings to its function."""
    if clause.kind == "needs":
        return clause.places & have[clause.other]
    here = have[clause.function]
    stretches = []
    for first, last in clause.places.stretches:
        if clause.way == "up":
            at = here.rank(first)
            if at < here.size() and here[at] <= last:
                stretches.append((here[at], last))
        else:
            at = here.rank(last + 1)
            if at > 0 and here[at - 1] >= first:
                stretches.append((first, here[at - 1]))
    return Places(stretches)
