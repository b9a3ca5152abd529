"""What must be answered: grown sets, what bars them, and rows that show a call of them."""

from openranges.grown import check_call, check_calls, grown_set
from openranges.reasons import barred_call, rows_for
from openranges.rows import first_wrong_row
from openranges.spots import Stretch, place_line


def musts(rules, *, asked=()):
    """A dict from each function to the Places of its calls in the grown set of the asked calls."""
    check_calls(rules, asked)
    return grown_set(rules, asked).have


def barred(rules, *, asked=()):
    """None, or (index, function, place) of a refuses-clause and a call of the grown set that it bars."""
    check_calls(rules, asked)
    return barred_call(rules, grown_set(rules, asked))


def grounds(rules, call, *, asked=()):
    """None if a call is not in the grown set; otherwise rows that show that it is, the last one for the call."""
    check_call(rules, call)
    check_calls(rules, asked)
    grown = grown_set(rules, asked)
    function, place = call
    if place not in grown.have[function]:
        return None
    return tuple(rows_for(rules, grown, [(function, place, place)]))


def is_grounds(rules, call, rows, *, asked=()):
    """-1 if rows, any value, are right for a call; otherwise the index of the first row that is not right."""
    check_call(rules, call)
    check_calls(rules, asked)
    calls = [(function, place_line(place)) for function, place in asked]
    wrong = first_wrong_row(rules, rows, calls, Stretch(0, 0), place_line)
    if wrong != -1:
        return wrong
    function, place = call
    if not rows or rows[-1][0] != function or not rows[-1][1] <= place <= rows[-1][2]:
        return len(rows)
    return -1
