"""Where claims hold and why: parts that derivations are made of."""

from openranges.forms import forms_of
from openranges.hops import hops_line, shortened
from openranges.lines import Line, first_above, value_at
from openranges.pieces import side_by_side
from openranges.questions import Question, asks_of
from openranges.reasons import barred_call, rows_for, rows_to_bar
from openranges.spots import spot_line
from openranges.walks import hops_of


class Part:
    """A stretch of x over which a claim is shown in one way: by a call of a grown set, or by chains of hops.

    Calls and grown sets are those for one x, the middle; spots tell what they are for the other ones.
    """

    def __init__(self, first, last, form, way, told):
        self.first = first
        self.last = last
        self._form = form
        self._way = way
        self._told = told

    def beside(self, first, last, other):
        """The part from first to last that shows what this one shows together with another one."""
        if self._way == "bar" or self._way == "ring":
            return Part(first, last, self._form, self._way, self._told)
        if other._way == "ring":
            return Part(first, last, self._form, "ring", other._told)
        return Part(first, last, self._form, "sums", self._told + other._told)

    def written(self):
        """The part as derivations tell it."""
        rules = self._form.basis.rules
        grown = self._form.grown
        if self._way == "bar":
            index, function, place = self._told
            rows, end = rows_to_bar(rules, grown, function, place), ("bar", index)
        elif self._way == "grown":
            function, place = self._told
            rows, end = rows_for(rules, grown, [(function, place, place)]), ("grown",)
        else:
            calls = [call for hops in self._told for hop in hops for call in _calls(hop, self._form.middle)]
            rows, end = rows_for(rules, grown, calls), (self._way, *self._told)
        return (self.first, self.last, tuple([self._spotted(row) for row in rows]), end)

    def _spotted(self, row):
        function, first, last, reason = row
        return (function, self._form.spot_of(first), self._form.spot_of(last), reason)


class Plain:
    """The form of what does not depend on x."""

    def __init__(self, basis):
        self.basis = basis
        self.grown = basis.grown
        self.middle = 0

    def spot_of(self, place):
        return place


def shown_parts(basis, claim):
    """The parts that show where a claim holds, ascending, under any rules."""
    places = asks_of(claim)
    wrong = wrong_part(basis)
    if wrong is not None:
        return [wrong.beside(first, last, wrong) for first, last in places.stretches]
    if claim.kind == "answers":
        return _answered_parts(basis, claim)
    question = Question(claim)
    parts = []
    for form in forms_of(basis, places, question):
        parts.extend(_parts_of(form, question))
    return parts


def wrong_part(basis):
    """A part that shows that no program is let, or None."""
    plain = Plain(basis)
    bar = barred_call(basis.rules, basis.grown)
    if bar is not None:
        return Part(0, 0, plain, "bar", bar)
    ring = basis.left.walk(len(basis.members), ())[0][1]
    return None if ring is None else Part(0, 0, plain, "ring", (shortened(hops_of(ring), 0),))


def _answered_parts(basis, claim):
    """The parts of an answers-claim: each row of the function shows the places that it has."""
    plain = Plain(basis)
    rows = sorted([(first, last, None) for name, first, last, _ in basis.grown.rows if name == claim.function])
    places = [(first, last, None) for first, last in claim.places.stretches]
    both = side_by_side(rows, places)
    return [Part(first, last, plain, "grown", (claim.function, first)) for first, last, _, _ in both]


def _parts_of(form, question):
    """The parts that show the claim for the x of a form."""
    bar = barred_call(form.basis.rules, form.grown)
    if bar is not None:
        return [Part(form.first, form.last, form, "bar", bar)]
    if question.wanted is not None:
        function, by = question.wanted
        if form.middle + by in form.grown.have[function]:
            return [Part(form.first, form.last, form, "grown", (function, form.middle + by))]
    if len(question.sums) < 2:
        return _chain_parts(form, question.sums[0] if question.sums else None)
    ones, others = [[(part.first, part.last, part) for part in _chain_parts(form, each)] for each in question.sums]
    return [one.beside(first, last, other) for first, last, one, other in side_by_side(ones, others)]


def answered_stretch(form):
    """The (first, last) of the x of a form at which its asked calls can be answered, or None."""
    if barred_call(form.basis.rules, form.grown) is not None:
        return None
    ahead, behind = _runs(form, None)
    first = ahead[-1].last + 1 if ahead else form.first
    last = behind[0].first - 1 if behind else form.last
    return (first, last) if first <= last else None


def _runs(form, wanted):
    """The parts that chains show from the first x on, and up to the last x. What lies between is not shown."""
    ahead = _run_up(form, wanted)
    low = ahead[-1].last + 1 if ahead else form.first
    return (ahead, _run_down(form, wanted, low)[::-1])


def _chain_parts(form, wanted):
    """All parts that chains show."""
    ahead, behind = _runs(form, wanted)
    return ahead + behind


def _run_up(form, wanted):
    """The parts from the first x of a form on, until nothing is shown."""
    parts = []
    x = form.first
    while x <= form.last:
        found = _shown_at(form, x, wanted)
        if found is None:
            break
        way, hops, excess = found
        stop = first_above(excess, Line(0, 0), x)
        end = form.last if stop is None else min(form.last, stop - 1)
        parts.append(Part(x, end, form, way, (hops,)))
        x = end + 1
    return parts


def _run_down(form, wanted, low):
    """The parts from the last x of a form down to low, where nothing is shown any more."""
    parts = []
    x = form.last
    while x >= low:
        found = _shown_at(form, x, wanted)
        if found is None:
            break
        way, hops, excess = found
        # Nothing is shown at low itself, so what is shown at x ends before.
        begin = 1 - first_above(excess.mirrored(0), Line(0, 0), -x)
        parts.append(Part(begin, x, form, way, (hops,)))
        x = begin - 1
    return parts


def _shown_at(form, x, wanted):
    """The way in which chains show at x what is wanted, their hops, and a line that is at most 0 as far as they do."""
    costs, ring = form.costs_at(x)
    if ring is not None:
        hops = shortened(hops_of(ring), x)
        return ("ring", hops, hops_line(form.basis.rules, hops) + 1)
    if wanted is None:
        return None
    start, goal, line = wanted
    found = costs.get((form.label(start), form.label(goal)))
    if found is None or found[0] > value_at(line, x):
        return None
    hops = shortened(hops_of(found[1]), x)
    return ("sum", hops, hops_line(form.basis.rules, hops) - line)


def _calls(hop, middle):
    """The calls of a hop with spots for x as the middle: (function, first, last)."""
    _, start, begin, goal, end = hop
    one = value_at(spot_line(begin), middle)
    other = value_at(spot_line(end), middle)
    if start == goal:
        return [(start, min(one, other), max(one, other))]
    return [(function, one, one) for function in (start, goal) if function is not None]
