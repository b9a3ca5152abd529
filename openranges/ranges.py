"""The status and the range of calls: what every let program may answer there."""

from openranges.bounds import least_costs
from openranges.clauses import Bound
from openranges.errors import NoBound
from openranges.forms import Basis, forms_of
from openranges.grown import check_call, grown_set
from openranges.integers import is_integer
from openranges.ladders import answers_at, can_answer, check_possible
from openranges.lets import let_program
from openranges.lines import Line, value_at
from openranges.overlaps import overlaps
from openranges.pieces import one_form, side_by_side
from openranges.places import Places
from openranges.proofs import answered_stretch
from openranges.questions import Question
from openranges.rules import Rules
from openranges.spots import is_sequence, is_string
from openranges.worlds import World, cost_limit


def status(rules, function, place):
    """What let programs do at a call: "answers" if all answer it, "refuses" if all refuse it, "open" otherwise."""
    _check(rules, function, place)
    if place in grown_set(rules, []).have[function]:
        return "answers"
    return "open" if can_answer(rules, [(function, place)]) else "refuses"


def range_at(rules, function, place):
    """The least and the greatest answer at a call, None for no bound; None if no let program answers it."""
    _check(rules, function, place)
    return answers_at(rules, (function, place))


def table(rules, function):
    """The status and the range at all places, as pieces (first, last, status, low, high)."""
    _check(rules, function, 0)
    basis = Basis(rules)
    every = Places([(0, rules.last)])
    question = Question(Bound(function, every, "=", 0, 0))
    rows = []
    for form in forms_of(basis, every, question):
        rows.extend(_form_rows(form, function))
    statuses = []
    for first, last, name, _, _ in rows:
        if statuses and statuses[-1][2] == name:
            statuses[-1] = (statuses[-1][0], last, name)
        else:
            statuses.append((first, last, name))
    lows = one_form([(first, last, low) for first, last, _, low, _ in rows])
    highs = one_form([(first, last, high) for first, last, _, _, high in rows])
    both = [(first, last, (low, high)) for first, last, low, high in side_by_side(lows, highs)]
    return tuple([(first, last, name, *ends) for first, last, name, ends in side_by_side(statuses, both)])


def is_table(rules, function, pieces):
    """Whether pieces, any value, tell the status and the range at all places."""
    known = table(rules, function)
    if not _follow_on(pieces, rules.last):
        return False
    found = overlaps(pieces, known)
    return all([_tells_same(pieces[at], known[beside], first, last) for first, last, at, beside in found])


def fixed(rules, function):
    """The Places at which all let programs have one outcome."""
    stretches = []
    for first, last, name, low, high in table(rules, function):
        if name == "refuses":
            stretches.append((first, last))
        elif name == "answers" and low is not None and high is not None:
            stretches.extend(_equal_stretches(low, high, first, last))
    return Places(stretches)


def least_program(rules):
    """The let program that answers what is sure to be answered, each with the least answer."""
    turned = Rules(rules.functions, rules.last, [clause.negated() for clause in rules.told])
    return greatest_program(turned).negated()


def greatest_program(rules):
    """The let program that answers what is sure to be answered, each with the greatest answer."""
    check_possible(rules)
    limit = cost_limit(World(rules))
    program = let_program(rules, [], None, limit)
    every = Places([(0, rules.last)])
    unbounded = []
    for at, function in enumerate(rules.functions):
        place = program.breach(Bound(function, every, "<=", 0, limit))
        if place is not None:
            unbounded.append((place, at))
    if unbounded:
        place, at = min(unbounded)
        raise NoBound(rules.functions[at], place)
    return program


def _check(rules, function, place):
    check_possible(rules)
    check_call(rules, (function, place))


def _form_rows(form, function):
    """The rows (first, last, status, low, high) for the x of a form that asks one call of a function."""
    stretch = answered_stretch(form)
    if stretch is None:
        return [(form.first, form.last, "refuses", None, None)]
    first, last = stretch
    sure = first in form.basis.grown.have[function]
    call = (function, 0)
    lows = least_costs(form, first, last, call, None)
    highs = least_costs(form, first, last, None, call)
    rows = []
    if form.first < first:
        rows.append((form.first, first - 1, "refuses", None, None))
    for begin, end, low, high in side_by_side(lows, highs):
        rows.append((begin, end, "answers" if sure else "open", None if low is None else -low, high))
    if last < form.last:
        rows.append((last + 1, form.last, "refuses", None, None))
    return rows


def _follow_on(pieces, last):
    """Whether any value is a list of parts of five, each straight behind the one before, from 0 to last."""
    if not isinstance(pieces, (tuple, list)):
        return False
    start = 0
    for piece in pieces:
        if not is_sequence(piece, 5) or not is_integer(piece[0]) or not is_integer(piece[1]):
            return False
        if piece[0] != start or piece[1] < start:
            return False
        start = piece[1] + 1
    return start == last + 1


def _tells_same(piece, known, first, last):
    """Whether a piece tells from first to last what a known one does."""
    if not is_string(piece[2], known[2]):
        return False
    return _is_same_line(piece[3], known[3], first, last) and _is_same_line(piece[4], known[4], first, last)


def _is_same_line(value, line, first, last):
    """Whether any value is None like the line, or a line that is equal to it from first to last."""
    if line is None or not isinstance(value, Line):
        return line is None and value is None
    return value_at(value, first) == value_at(line, first) and value_at(value, last) == value_at(line, last)


def _equal_stretches(low, high, first, last):
    """The stretches from first to last at which two lines are equal, of which the one is never above the other."""
    found = [(x, x) for x in (first, last) if value_at(low, x) == value_at(high, x)]
    return [(first, last)] if len(found) == 2 else found
