"""Least costs of chains for all x of a form at which its asked calls can be answered."""

from openranges.lines import Line, first_above, value_at
from openranges.pieces import line_through


def least_costs(form, first, last, start, goal):
    """The least costs of chains from start to goal at the x from first to last, as pieces (first, last, Line).

    Start and goal are calls that the form asks, or None for nought. Without a chain there is one piece, with None.
    """
    key = (form.label(start), form.label(goal))
    if key not in form.costs_at(first)[0]:
        return [(first, last, None)]
    return _cost_pieces(form, key, first, last)


def _cost_pieces(form, key, first, last):
    """The least costs between two labels, which are the least of some lines, as pieces."""
    if first == last:
        return [(first, last, Line(0, _cost(form, key, first)))]
    # A line through the costs at two places side by side is nowhere below the cost.
    one = line_through(first, _cost(form, key, first), _cost(form, key, first + 1))
    if value_at(one, last) == _cost(form, key, last):
        return [(first, last, one)]
    other = line_through(last - 1, _cost(form, key, last - 1), _cost(form, key, last))
    turn = first_above(one, other, first)
    return _cost_pieces(form, key, first, turn - 1) + _cost_pieces(form, key, turn, last)


def _cost(form, key, x):
    return form.costs_at(x)[0][key][0]
