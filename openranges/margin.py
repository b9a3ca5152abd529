"""Margins: how far clauses about numbers can be tightened until no program is let any more."""

from openranges.clauses import has_number, with_height
from openranges.errors import BadKind, NoClause
from openranges.grown import grown_set
from openranges.hops import hops_line
from openranges.integers import is_integer
from openranges.ladders import check_possible
from openranges.lines import value_at
from openranges.rules import Rules
from openranges.walks import hops_of, whole_walk
from openranges.worlds import World, cost_limit


def tightened(rules, amount):
    """The rules with all numbers of clauses with the signs <= and >= tightened by an integer."""
    return _tightened(rules, _one_sided(rules), amount)


def margin(rules):
    """The greatest integer by which the rules can be tightened and stay possible, or None."""
    check_possible(rules)
    return _most(rules, _one_sided(rules))


def slack(rules, index):
    """The greatest integer by which one clause can be tightened and the rules stay possible, or None."""
    check_possible(rules)
    if not is_integer(index) or not 0 <= index < len(rules.told):
        raise NoClause(index)
    if index not in _one_sided(rules):
        raise BadKind()
    return _most(rules, [index])


def tight(rules):
    """The indexes of the clauses that cannot be tightened at all."""
    check_possible(rules)
    grown = grown_set(rules, [])
    return tuple([index for index in _one_sided(rules) if _ring(rules, grown, [index], 1) is not None])


def _one_sided(rules):
    """The indexes of the clauses that can be tightened."""
    return [index for index, clause in enumerate(rules.told) if has_number(clause) and clause.sign != "="]


def _tightened(rules, chosen, amount):
    """The rules with the clauses of some indexes tightened."""
    told = list(rules.told)
    for index in chosen:
        by = -amount if told[index].sign == "<=" else amount
        told[index] = with_height(told[index], told[index].height + by)
    return Rules(rules.functions, rules.last, told)


def _ring(rules, grown, chosen, amount):
    """The hops of a ring of cost below 0 when the chosen clauses are tightened; None if the rules stay possible."""
    world = World(_tightened(rules, chosen, amount))
    found = whole_walk(world, [grown.functions_at(first) for first, _ in world.cells])[1]
    return None if found is None else hops_of(found)


def _most(rules, chosen):
    """The greatest amount by which the chosen clauses of possible rules can be tightened, or None."""
    grown = grown_set(rules, [])
    low = 0
    # More than a ring costs: so every ring that uses a chosen clause gets below 0.
    high = cost_limit(World(rules)) + 1
    hops = _ring(rules, grown, chosen, high)
    if hops is None:
        return None
    while hops is not None:
        before = high - low
        high = _allowed(rules, chosen, hops)
        if 2 * (high - low) > before:
            # Such a ring may be followed by many a one that allows little less.
            middle = (low + high) // 2
            hops = _ring(rules, grown, chosen, middle)
            if hops is not None:
                continue
            low = middle
        hops = _ring(rules, grown, chosen, high)
    return high


def _allowed(rules, chosen, hops):
    """The greatest amount that leaves a ring at 0 at least: its cost by how often it uses the chosen clauses."""
    uses = 0
    for index, _, begin, _, end in hops:
        if index in chosen:
            uses = uses + (abs(end - begin) if rules.told[index].kind == "step" else 1)
    return value_at(hops_line(rules, hops), 0) // uses
