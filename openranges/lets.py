"""Let programs: they answer just a grown set, with answers as far above one call as the clauses allow."""

from openranges.grown import grown_set
from openranges.lines import Line, lowest
from openranges.programs import Program
from openranges.worlds import World, cell_nodes, cost_limit, step_hops, upright_hops


def let_program(rules, asked, start, number):
    """A let program that answers the asked calls, which some let program does.

    Each answer is as far above that of start (a call of the grown set, or None for nought) as the clauses allow,
    and more than the number above it where they allow all.
    """
    grown = grown_set(rules, asked)
    world = World(rules, [place for _, place in asked])
    rows = [cell_nodes(world, cell, grown.functions_at(ends[0])) for cell, ends in enumerate(world.cells)]
    nodes = [node for row in rows for node in row]
    # More than any chain without a ring costs, and more than the number on top of any that costs less than 0.
    far = 2 * cost_limit(world) + abs(number) + 1
    costs = {(function, node.place): far for node in nodes for function in node.functions}
    costs[None] = far
    costs[start] = 0
    _settle(_hops_of_nodes(world, nodes), costs)
    told = {}
    for function in rules.functions:
        told[function] = [piece for row in rows for piece in _pieces(world, row, function, costs, far)]
    return Program(rules.last, told)


def _hops_of_nodes(world, nodes):
    """All hops between the calls at nodes, as (start, goal, cost) by calls, from left to right."""
    hops = []
    before = None
    for node in nodes:
        if before is not None:
            for function, (cost, _) in step_hops(world, before, node).items():
                hops.append(((function, before.place), (function, node.place), cost))
            for function, (cost, _) in step_hops(world, node, before).items():
                hops.append(((function, node.place), (function, before.place), cost))
        for start, goal, cost, _ in upright_hops(world, node):
            hops.append((_call(start, node), _call(goal, node), cost))
        before = node
    return hops


def _call(function, node):
    return None if function is None else (function, node.place)


def _settle(hops, costs):
    """Lowers the costs of calls until no hop lowers one more."""
    changed = True
    while changed:
        changed = False
        for start, goal, cost in hops:
            if costs[start] + cost < costs[goal]:
                costs[goal] = costs[start] + cost
                changed = True
        hops = hops[::-1]


def _pieces(world, row, function, costs, far):
    """The pieces of a function in a cell, given by its nodes."""
    first = row[0].place
    last = row[-1].place
    if function not in row[0].functions:
        return [(first, last, None)]
    ground = costs[None]
    pieces = [(node.place, node.place, Line(0, costs[(function, node.place)] - ground)) for node in row]
    if last - first < 2:
        return pieces
    inside = _inside(world, row, costs, far)[function]
    return pieces[:1] + [(begin, end, line - ground) for begin, end, line in inside] + pieces[1:]


def _inside(world, row, costs, far):
    """For each function the least costs between the two nodes of a cell, as pieces."""
    low, high = row
    first = low.place + 1
    last = high.place - 1
    steps = world.steps_inside[low.cell]
    lines = {function: [Line(0, far)] for function in low.functions}
    for function in low.functions:
        if (function, True) in steps:
            slope = steps[(function, True)][0]
            lines[function].append(Line(slope, costs[(function, low.place)] - slope * low.place))
        if (function, False) in steps:
            slope = steps[(function, False)][0]
            lines[function].append(Line(-slope, costs[(function, high.place)] + slope * high.place))
    beside = []
    for start, goal, line, _ in world.uprights[low.cell]:
        if start is None and goal in lines:
            lines[goal].append(line + costs[None])
        elif start in lines and goal in lines:
            beside.append((start, goal, line))
    pieces = {function: lowest(lines[function], first, last) for function in lines}
    # Chains at one place go through three functions at most.
    for _ in range(2):
        for start, goal, line in beside:
            found = [held for _, _, held in pieces[goal]] + [held + line for _, _, held in pieces[start]]
            pieces[goal] = lowest(found, first, last)
    return pieces
