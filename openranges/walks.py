"""Least costs of chains, found by walking along the cells: states tell them for the part that has been walked.

A state is a dict from (start, goal) to (cost, path) with a ring, or None, beside it. Start and goal are None (nought),
a function (its call at the last node), or the index of a kept call. A path is a hop, a pair of paths, or None.
"""

from openranges.worlds import cell_nodes, step_hops, upright_hops


def begun():
    """The state ahead of all nodes."""
    return ({}, None)


def walked(world, state, before, node, kept=()):
    """The state with one more node, beside the one before (None for the first one)."""
    if state[1] is not None:
        return state
    costs, ring = _carried(world, state[0], before, node)
    if ring is not None:
        return (costs, ring)
    for start, goal, cost, hop in upright_hops(world, node):
        _keep_least(costs, (start, goal), (cost, hop))
    for index, call in enumerate(kept):
        if call is not None and call[1] == node.spot and call[0] in node.functions:
            costs[(index, call[0])] = (0, None)
            costs[(call[0], index)] = (0, None)
    return (costs, _closed(costs, _labels(node, kept)))


def walked_over(world, state, before, nodes, kept=()):
    """The state with some more nodes, one after the other."""
    for node in nodes:
        state = walked(world, state, before, node, kept)
        before = node
    return state


def met(world, state, before, other, node, kept=()):
    """The state of a walk that meets another one, which ends at the node beside the one before."""
    if state[1] is not None or other[1] is not None:
        return state if state[1] is not None else other
    costs, ring = _carried(world, state[0], before, node)
    if ring is not None:
        return (costs, ring)
    for key, found in other[0].items():
        _keep_least(costs, key, found)
    return (costs, _closed(costs, _labels(node, kept)))


def hops_of(path):
    """The hops of a path."""
    hops = []
    rest = [path]
    while rest:
        part = rest.pop()
        if part is not None and len(part) == 2:
            rest.append(part[1])
            rest.append(part[0])
        elif part is not None:
            hops.append(part)
    return hops


def whole_walk(world, members, kept=()):
    """The state over all cells; members are the grown functions of each cell."""
    state = begun()
    before = None
    for cell, functions in enumerate(members):
        nodes = cell_nodes(world, cell, functions)
        state = walked_over(world, state, before, nodes, kept)
        before = nodes[-1]
    return state


def _labels(node, kept):
    return [None] + [index for index in range(len(kept))] + list(node.functions)


def _keep_least(costs, key, found):
    known = costs.get(key)
    if known is None or found[0] < known[0]:
        costs[key] = found


def _carried(world, costs, before, node):
    """What a state tells of the calls at the next node, by steps from the node before; and a ring, if there is one."""
    if before is None:
        return ({}, None)
    there = step_hops(world, before, node)
    back = step_hops(world, node, before)
    carried = {}
    for (start, goal), (cost, path) in costs.items():
        if start in back:
            cost, path = cost + back[start][0], (back[start][1], path)
        elif start in before.functions:
            continue
        if goal in there:
            cost, path = cost + there[goal][0], (path, there[goal][1])
        elif goal in before.functions:
            continue
        carried[(start, goal)] = (cost, path)
    for function in there:
        if function in back and there[function][0] + back[function][0] < 0:
            return (carried, (there[function][1], back[function][1]))
    return (carried, None)


def _closed(costs, labels):
    """Takes the least costs by way of each label; a ring below 0, if one is found."""
    for middle in labels:
        for start in labels:
            one = costs.get((start, middle))
            if one is None:
                continue
            for goal in labels:
                other = costs.get((middle, goal))
                if other is None:
                    continue
                cost = one[0] + other[0]
                if start == goal:
                    if cost < 0:
                        return (one[1], other[1])
                else:
                    _keep_least(costs, (start, goal), (cost, (one[1], other[1])))
    return None
