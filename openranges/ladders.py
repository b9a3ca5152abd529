"""Chains and rings of hops: the least costs between calls, and whether calls can be answered."""

from openranges.errors import Impossible
from openranges.grown import check_calls, grown_set
from openranges.hops import hop_line, leads, read_chain, read_hop, shortened
from openranges.lines import value_at
from openranges.reasons import barred_call
from openranges.spots import Stretch, place_line
from openranges.walks import hops_of, whole_walk
from openranges.worlds import World


def hop_cost(rules, hop):
    """The cost of a hop, or None for any other value."""
    if read_hop(rules, hop, Stretch(0, 0), place_line) is None:
        return None
    return value_at(hop_line(rules, hop), 0)


def ring(rules, *, asked=()):
    """A ring of cost below 0 in the grown set of the asked calls, or None."""
    check_calls(rules, asked)
    found = _walk(rules, asked, grown_set(rules, asked), ())[1]
    return None if found is None else shortened(hops_of(found), 0)


def can_answer(rules, calls):
    """Whether some let program answers all these calls."""
    check_calls(rules, calls)
    grown = grown_set(rules, calls)
    return barred_call(rules, grown) is None and _walk(rules, calls, grown, ())[1] is None


def check_possible(rules):
    """Raises Impossible if no program is let."""
    if not can_answer(rules, []):
        raise Impossible()


def answers_at(rules, call):
    """The least and the greatest answer at a call, None for no bound; None if no let program answers it."""
    grown = grown_set(rules, [call])
    if barred_call(rules, grown) is not None:
        return None
    costs, found = _walk(rules, [call], grown, (call,))
    if found is not None:
        return None
    low = costs.get((0, None))
    high = costs.get((None, 0))
    return (None if low is None else -low[0], None if high is None else high[0])


def cheapest(rules, start, goal, *, asked=()):
    """The least cost of a chain from start to goal, calls or None, with such a chain; None if there is none."""
    calls = _check_ends(rules, start, goal, asked)
    grown = grown_set(rules, list(asked) + calls)
    if barred_call(rules, grown) is not None:
        raise Impossible()
    costs, found = _walk(rules, list(asked) + calls, grown, (start, goal))
    if found is not None:
        raise Impossible()
    if start == goal:
        return (0, ())
    key = (None if start is None else 0, None if goal is None else 1)
    if key not in costs:
        return None
    cost, path = costs[key]
    return (cost, shortened(hops_of(path), 0))


def is_chain(rules, hops, start, goal, *, asked=()):
    """Whether hops, any value, are a chain from start to goal that lies in the grown set of the asked calls."""
    _check_ends(rules, start, goal, asked)
    stretch = Stretch(0, 0)
    chain = read_chain(rules, hops, stretch, place_line)
    if chain is None or not leads(chain, _end_of(start), _end_of(goal), stretch):
        return False
    have = grown_set(rules, asked).have
    calls = [call for hop in chain for call in hop.calls]
    return all([stretch.swept_within(low, high, have[function]) for function, low, high in calls])


def _check_ends(rules, start, goal, asked):
    """The calls among start and goal, which are looked at ahead of the asked ones."""
    calls = [call for call in (start, goal) if call is not None]
    check_calls(rules, calls)
    check_calls(rules, asked)
    return calls


def _end_of(call):
    """A call, or nought, with a Line for its place."""
    return (None, None) if call is None else (call[0], place_line(call[1]))


def _walk(rules, asked, grown, kept):
    """The state of a walk over all cells of a grown set."""
    world = World(rules, [place for _, place in asked])
    return whole_walk(world, [grown.functions_at(first) for first, _ in world.cells], kept)
