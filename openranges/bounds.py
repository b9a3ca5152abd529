"""Least costs of chains for all x of a form at which its asked calls can be answered."""

from openranges.hops import hops_line
from openranges.lines import first_above, value_at
from openranges.walks import hops_of


def least_costs(form, first, last, start, goal):
    """The least costs of chains from start to goal at the x from first to last, as pieces (first, last, Line).

    Start and goal are calls that the form asks, or None for nought. Without a chain there is one piece, with None.
    """
    one = _cost_line(form, first, start, goal)
    if one is None:
        return [(first, last, None)]
    other = _cost_line(form, last, start, goal)
    # The least cost is the least of some lines: one that tells it at both ends tells it all along.
    if value_at(one, last) == value_at(other, last):
        return [(first, last, one)]
    if value_at(one, first) == value_at(other, first):
        return [(first, last, other)]
    turn = first_above(one, other, first)
    return least_costs(form, first, turn - 1, start, goal) + least_costs(form, turn, last, start, goal)


def _cost_line(form, x, start, goal):
    """The line of the cost of a chain that is a cheapest one at x; None if there is no chain."""
    found = form.costs_at(x)[0].get((form.label(start), form.label(goal)))
    return None if found is None else hops_line(form.basis.rules, hops_of(found[1]))
