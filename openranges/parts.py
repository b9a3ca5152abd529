"""Parts of derivations: whether they show what they are to show, for every x of their stretch."""

from openranges.hops import hops_line, leads, read_chain
from openranges.lines import Line
from openranges.rows import clause_at, first_wrong_row, lie_in, read_row
from openranges.spots import Stretch, is_sequence, is_string, spot_line


def is_part(rules, question, part):
    """Whether a tuple or list of four, the first two of them places in order, is a right part of a derivation."""
    first, last, rows, end = part
    stretch = Stretch(first, last)
    asked = [(function, Line(1, by)) for function, by in question.asked]
    if first_wrong_row(rules, rows, asked, stretch, spot_line) != -1:
        return False
    known = [read_row(row, spot_line) for row in rows]
    if is_sequence(end, 1):
        return is_string(end[0], "grown") and _is_grown(question, known, stretch)
    if is_sequence(end, 3):
        wanted = question.sums if len(question.sums) == 2 and is_string(end[0], "sums") else []
        return bool(wanted) and all([_is_sum(rules, each, hops, known, stretch) for each, hops in zip(wanted, end[1:])])
    if not is_sequence(end, 2):
        return False
    if is_string(end[0], "bar"):
        return _is_bar(rules, end[1], known, stretch)
    if is_string(end[0], "ring"):
        return _is_ring(rules, end[1], known, stretch)
    if is_string(end[0], "sum") and len(question.sums) == 1:
        return _is_sum(rules, question.sums[0], end[1], known, stretch)
    return False


def _is_grown(question, rows, stretch):
    if question.wanted is None or not rows:
        return False
    function, first, last = rows[-1]
    place = Line(1, question.wanted[1])
    return function == question.wanted[0] and stretch.never_above(first, place) and stretch.never_above(place, last)


def _is_bar(rules, index, rows, stretch):
    clause = clause_at(rules, index, "refuses")
    if clause is None or not rows:
        return False
    function, first, last = rows[-1]
    if function != clause.function or not stretch.always_same(first, last):
        return False
    return stretch.swept_within(first, last, clause.places)


def _is_ring(rules, value, rows, stretch):
    hops = read_chain(rules, value, stretch, spot_line)
    if not hops or not lie_in(hops, rows, stretch):
        return False
    start = (hops[0].start, hops[0].begin)
    return leads(hops, start, start, stretch) and stretch.never_above(hops_line(rules, value) + 1, Line(0, 0))


def _is_sum(rules, wanted, value, rows, stretch):
    start, goal, line = wanted
    hops = read_chain(rules, value, stretch, spot_line)
    if hops is None or not leads(hops, _end_of(start), _end_of(goal), stretch) or not lie_in(hops, rows, stretch):
        return False
    return stretch.never_above(hops_line(rules, value), line)


def _end_of(call):
    """A call (function, d), or None for nought, with a Line for its place."""
    return (None, None) if call is None else (call[0], Line(1, call[1]))
