"""Strongest numbers: how much every let program keeps of a clause about numbers."""

from openranges.bounds import least_costs
from openranges.clauses import has_number, with_height
from openranges.errors import BadKind
from openranges.forms import Basis, forms_of
from openranges.ladders import check_possible
from openranges.lines import value_at
from openranges.proofs import answered_stretch
from openranges.questions import Question, asks_of
from openranges.rules import check_fits


def strongest(rules, shape):
    """The strongest number with which every let program keeps a clause, with the least place that meets it."""
    if not has_number(shape) or shape.sign == "=":
        raise BadKind()
    check_fits(shape, rules.functions, rules.last)
    check_possible(rules)
    question = Question(with_height(shape, 0))
    best = None
    for form in forms_of(Basis(rules), asks_of(shape), question):
        stretch = answered_stretch(form)
        if stretch is not None:
            found = _most(form, stretch, question.sums[0])
            if found is None:
                return ("none", None, stretch[0])
            if best is None or found[0] > best[0]:
                best = found
    if best is None:
        return ("all", None, None)
    return ("number", best[0] if shape.sign == "<=" else -best[0], best[1])


def with_number(shape, height):
    """The same clause with another height."""
    if not has_number(shape):
        raise BadKind()
    return with_height(shape, height)


def _most(form, stretch, wanted):
    """How far least costs get above a line, with the least x at which they do; None if they have no bound."""
    start, goal, line = wanted
    best = None
    for first, last, cost in least_costs(form, stretch[0], stretch[1], start, goal):
        if cost is None:
            return None
        for x in (first, last):
            excess = value_at(cost - line, x)
            if best is None or excess > best[0]:
                best = (excess, x)
    return best
