"""Hops with spots: whether they are hops of the rules for every x of a stretch, and what they cost."""

from openranges.integers import is_integer
from openranges.lines import Line, value_at
from openranges.spots import is_sequence, spot_line


class Hop:
    """A hop that was read: its functions (None for nought) with a Line for each place, and its calls.

    Calls are tuples (function, low, high) with Lines: all places from low to high.
    """

    def __init__(self, start, begin, goal, end, calls):
        self.start = start
        self.begin = begin
        self.goal = goal
        self.end = end
        self.calls = calls


def hop_line(rules, hop):
    """The line of the cost of a hop with spots, whose index and functions fit."""
    index, _, begin, goal, end = hop
    clause = rules.told[index]
    if clause.kind == "step":
        return (spot_line(end) - spot_line(begin)) * clause.height
    line = spot_line(begin) * clause.slope + clause.height
    return line if goal == clause.function else -line


def hops_line(rules, hops):
    """The line of the cost of several hops with spots."""
    total = Line(0, 0)
    for hop in hops:
        total = total + hop_line(rules, hop)
    return total


def shortened(hops, x):
    """The same chain of hops with spots, with steps that go on in one way by one clause as one hop, told for one x."""
    kept = []
    for hop in hops:
        if kept and _goes_on(kept[-1], hop, x):
            index, start, begin, goal, _ = kept[-1]
            kept[-1] = (index, start, begin, goal, hop[4])
        else:
            kept.append(hop)
    return tuple(kept)


def _goes_on(hop, behind, x):
    return hop[0] == behind[0] and hop[1] == hop[3] and _rises(hop, x) == _rises(behind, x)


def _rises(hop, x):
    return value_at(spot_line(hop[2]), x) < value_at(spot_line(hop[4]), x)


def read_chain(rules, value, stretch, reader):
    """The list of the Hops of any value that is a list of them, each from where the one before ends, or None."""
    if not isinstance(value, (tuple, list)):
        return None
    hops = []
    for item in value:
        hop = read_hop(rules, item, stretch, reader)
        if hop is None or (hops and not same_call(stretch, hops[-1].goal, hops[-1].end, hop.start, hop.begin)):
            return None
        hops.append(hop)
    return hops


def leads(hops, start, goal, stretch):
    """Whether Hops of a chain lead from one call to another: pairs of a function and a Line, or None for nought."""
    if not hops:
        return same_call(stretch, start[0], start[1], goal[0], goal[1])
    at_start = same_call(stretch, start[0], start[1], hops[0].start, hops[0].begin)
    return at_start and same_call(stretch, hops[-1].goal, hops[-1].end, goal[0], goal[1])


def same_call(stretch, function, place, other, beside):
    """Whether two calls, or noughts at whatever place, are the same for every x."""
    if function is None or other is None:
        return function is None and other is None
    return function == other and stretch.always_same(place, beside)


def read_hop(rules, value, stretch, reader):
    """The Hop of any value that is a hop of the rules for every x of the stretch, or None."""
    if not is_sequence(value, 5):
        return None
    index, start, _, goal, _ = value
    begin = reader(value[2])
    end = reader(value[4])
    if begin is None or end is None or not is_integer(index) or not 0 <= index < len(rules.told):
        return None
    clause = rules.told[index]
    if clause.kind == "step":
        if not _names(start, clause.function) or not _names(goal, clause.function):
            return None
        calls = _step_calls(clause, begin, end, stretch)
    else:
        calls = _upright_calls(clause, start, goal, begin)
        if not stretch.always_same(begin, end):
            return None
    if not calls or not all([stretch.swept_within(low, high, clause.places) for _, low, high in calls]):
        return None
    return Hop(start, begin, goal, end, calls)


def _step_calls(clause, begin, end, stretch):
    """The calls of a step between these places, or none if the clause has no such step for every x."""
    if clause.sign != ">=" and stretch.never_above(begin + 1, end):
        return [(clause.function, begin, end)]
    if clause.sign != "<=" and stretch.never_above(end + 1, begin):
        return [(clause.function, end, begin)]
    return []


def _upright_calls(clause, start, goal, place):
    """The calls of a hop at one place between any values, or none if the clause has no such hop."""
    if clause.kind != "bound" and clause.kind != "pair":
        return []
    beside = clause.other if clause.kind == "pair" else None
    up = clause.sign != ">=" and _names(start, beside) and _names(goal, clause.function)
    down = clause.sign != "<=" and _names(start, clause.function) and _names(goal, beside)
    if not up and not down:
        return []
    return [(function, place, place) for function in clause.functions_told()]


def _names(value, function):
    """Whether any value is this function, or None for nought."""
    if function is None:
        return value is None
    return isinstance(value, str) and value == function
