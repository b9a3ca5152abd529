"""Specifications compared, and what of them could be left out."""

from openranges.claims import against, asks, holds
from openranges.errors import Unfair
from openranges.specs import check_same_shape


def within(one, other):
    """Whether every program that one specification lets is let by another one."""
    check_same_shape(one, other)
    return all([_always_holds(one.rules, clause) for clause in other.rules.told])


def parting(one, other):
    """The first name of other whose clause fails in one, the least x and a program that breaks it there; or None."""
    check_same_shape(one, other)
    for name, clause in other.entries:
        found = against(one.rules, clause)
        if found is not None:
            x, program = found
            return (name, x, program)
    return None


def needless(spec):
    """The names whose clause holds without it."""
    return tuple([name for name in spec.names if _always_holds(_without(spec, spec.names, name).rules, spec[name])])


def irreducible(spec, is_enough):
    """The names that are left when each one, from the last to the first, is dropped if the rest is still enough."""
    left = spec.selected(spec.names)
    if not is_enough(left):
        raise Unfair()
    for name in spec.names[::-1]:
        rest = _without(spec, left.names, name)
        if is_enough(rest):
            left = rest
    return left.names


def _always_holds(rules, claim):
    """Whether a claim holds at all x of which it says something."""
    return holds(rules, claim) == asks(rules, claim)


def _without(spec, names, name):
    """The selection of some names of a specification but for one."""
    return spec.selected([other for other in names if other != name])
