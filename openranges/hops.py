"""Hops with spots: whether they are hops of the rules for every x of a stretch, and what they cost."""

from openranges.integers import is_integer
from openranges.lines import Line, value_at
from openranges.spots import is_sequence, spot_line

_SIGNS_UP = ("<=", "=")
_SIGNS_DOWN = (">=", "=")


class Hop:
    """A hop that was read: its clause, and its functions (None for nought) with a Line for each place."""

    def __init__(self, clause, start, begin, goal, end):
        self.clause = clause
        self.start = start
        self.begin = begin
        self.goal = goal
        self.end = end

    def calls(self):
        """The calls of the hop: (function, low, high) with Lines."""
        if self.clause.kind == "step":
            rising = self.end.slope > self.begin.slope or self.end.height > self.begin.height
            return [(self.start, self.begin, self.end) if rising else (self.start, self.end, self.begin)]
        return [(function, self.begin, self.begin) for function in (self.start, self.goal) if function is not None]


def hop_line(rules, hop):
    """The line of the cost of a hop with spots, whose index and functions fit."""
    index, _, begin, goal, end = hop
    clause = rules.told[index]
    if clause.kind == "step":
        return (spot_line(end) - spot_line(begin)) * clause.height
    line = spot_line(begin) * clause.slope + clause.height
    return line if goal == clause.function else -line


def hops_line(rules, hops):
    """The line of the cost of several hops with spots."""
    total = Line(0, 0)
    for hop in hops:
        total = total + hop_line(rules, hop)
    return total


def shortened(hops, x):
    """The same chain of hops with spots, with steps that go on in one way by one clause as one hop, told for one x."""
    kept = []
    for hop in hops:
        if kept and _goes_on(kept[-1], hop, x):
            index, start, begin, goal, _ = kept[-1]
            kept[-1] = (index, start, begin, goal, hop[4])
        else:
            kept.append(hop)
    return tuple(kept)


def _goes_on(hop, behind, x):
    return hop[0] == behind[0] and hop[1] == hop[3] and _rises(hop, x) == _rises(behind, x)


def _rises(hop, x):
    return value_at(spot_line(hop[2]), x) < value_at(spot_line(hop[4]), x)


def read_chain(rules, value, stretch, reader):
    """The list of the Hops of any value that is a list of them, each from where the one before ends, or None."""
    if not isinstance(value, (tuple, list)):
        return None
    hops = []
    for item in value:
        hop = read_hop(rules, item, stretch, reader)
        if hop is None or (hops and not same_call(stretch, hops[-1].goal, hops[-1].end, hop.start, hop.begin)):
            return None
        hops.append(hop)
    return hops


def leads(hops, start, goal, stretch):
    """Whether Hops of a chain lead from one call to another: pairs of a function and a Line, or None for nought."""
    if not hops:
        return same_call(stretch, start[0], start[1], goal[0], goal[1])
    at_start = same_call(stretch, start[0], start[1], hops[0].start, hops[0].begin)
    return at_start and same_call(stretch, hops[-1].goal, hops[-1].end, goal[0], goal[1])


def same_call(stretch, function, place, other, beside):
    """Whether two calls, or noughts at whatever place, are the same for every x."""
    if function is None or other is None:
        return function is None and other is None
    return function == other and stretch.always_same(place, beside)


def read_hop(rules, value, stretch, reader):
    """The Hop of any value that is a hop of the rules for every x of the stretch, or None."""
    if not is_sequence(value, 5):
        return None
    index, start, _, goal, _ = value
    begin = reader(value[2])
    end = reader(value[4])
    if begin is None or end is None or not is_integer(index) or not 0 <= index < len(rules.told):
        return None
    hop = Hop(rules.told[index], start, begin, goal, end)
    if hop.clause.kind == "step":
        return hop if _is_step(hop, stretch) else None
    if hop.clause.kind == "bound" or hop.clause.kind == "pair":
        return hop if _is_upright(hop, stretch) else None
    return None


def _is_step(hop, stretch):
    clause = hop.clause
    if not _names(hop.start, clause.function) or not _names(hop.goal, clause.function):
        return False
    if stretch.never_above(hop.begin + 1, hop.end):
        return clause.sign in _SIGNS_UP and stretch.swept_within(hop.begin, hop.end, clause.places)
    if stretch.never_above(hop.end + 1, hop.begin):
        return clause.sign in _SIGNS_DOWN and stretch.swept_within(hop.end, hop.begin, clause.places)
    return False


def _is_upright(hop, stretch):
    clause = hop.clause
    beside = clause.other if clause.kind == "pair" else None
    if _names(hop.start, beside) and _names(hop.goal, clause.function):
        allowed = _SIGNS_UP
    elif _names(hop.start, clause.function) and _names(hop.goal, beside):
        allowed = _SIGNS_DOWN
    else:
        return False
    if clause.sign not in allowed or not stretch.always_same(hop.begin, hop.end):
        return False
    return stretch.swept_within(hop.begin, hop.end, clause.places)


def _names(value, function):
    """Whether any value is this function, or None for nought."""
    if function is None or value is None:
        return function is None and value is None
    return isinstance(value, str) and value == function
