"""Chains for many places at once: rows and hops with spots, over all x of a stretch."""

from openranges.hops import hops_line, read_chain
from openranges.lines import value_at
from openranges.rows import first_wrong_row, lie_in, read_row
from openranges.spots import Stretch, spot_line


def placed(item, x):
    """A row or hop in which each spot is replaced by its place for this x."""
    if len(item) == 4:
        function, first, last, reason = item
        return (function, _place(first, x), _place(last, x), reason)
    index, start, begin, goal, end = item
    return (index, start, _place(begin, x), goal, _place(end, x))


def chain_line(rules, hops):
    """The Line whose value at x is the cost of the hops with spots at x."""
    return hops_line(rules, hops)


def rows_hold(rules, rows, asked, first, last):
    """-1 if rows with spots, any value, are right for every x from first to last; otherwise the first wrong index."""
    calls = [(function, spot_line(spot)) for function, spot in asked]
    return first_wrong_row(rules, rows, calls, Stretch(first, last), spot_line)


def hops_hold(rules, hops, rows, first, last):
    """Whether hops with spots, any value, are a chain for every x from first to last, with all calls in the rows."""
    if not isinstance(rows, (tuple, list)):
        return False
    stretch = Stretch(first, last)
    chain = read_chain(rules, hops, stretch, spot_line)
    if chain is None:
        return False
    return lie_in(chain, [read_row(row, spot_line) for row in rows], stretch)


def _place(spot, x):
    return value_at(spot_line(spot), x)
