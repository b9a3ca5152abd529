"""The places of rules cut into cells, and the hops that the clauses allow in each cell."""

from openranges.lines import value_at


class World:
    """Cells (first, last) inside of which no clause begins or ends, each of some given places a cell of its own."""

    def __init__(self, rules, places=()):
        self.rules = rules
        self.cells = _cells(rules, places)
        covers = self._covers()
        steps = [[index for index in cover if rules.told[index].kind == "step"] for cover in covers]
        self.uprights = [_uprights(rules, cover) for cover in covers]
        self.steps_inside = [_best_steps(rules, cover) for cover in steps]
        self.steps_between = []
        for one, other in zip(steps, steps[1:]):
            self.steps_between.append(_best_steps(rules, [index for index in one if index in other]))

    def cell_at(self, place):
        """The index of the cell that has a place."""
        low = 0
        high = len(self.cells) - 1
        while low < high:
            middle = (low + high) // 2
            if place <= self.cells[middle][1]:
                high = middle
            else:
                low = middle + 1
        return low

    def _covers(self):
        """For each cell the indexes of the clauses that have its places."""
        covers = [[] for _ in self.cells]
        for index, clause in enumerate(self.rules.told):
            for first, last in clause.places.stretches:
                for cell in range(self.cell_at(first), self.cell_at(last) + 1):
                    covers[cell].append(index)
        return covers


class Node:
    """A place at which chains may turn, the spot that hops have for it, its cell, and the functions grown there."""

    def __init__(self, place, spot, cell, functions):
        self.place = place
        self.spot = spot
        self.cell = cell
        self.functions = functions


def cell_nodes(world, cell, functions):
    """The ends of a cell, from left to right."""
    first, last = world.cells[cell]
    ends = (first,) if first == last else (first, last)
    return [Node(place, place, cell, functions) for place in ends]


def upright_hops(world, node):
    """The hops at a node: (start, goal, cost, hop), start and goal functions or None."""
    rows = []
    for start, goal, line, index in world.uprights[node.cell]:
        if (start is None or start in node.functions) and (goal is None or goal in node.functions):
            rows.append((start, goal, value_at(line, node.place), (index, start, node.spot, goal, node.spot)))
    return rows


def step_hops(world, one, other):
    """The hops from a node to one beside it: a dict from functions to (cost, hop)."""
    rising = one.place < other.place
    if one.cell == other.cell:
        best = world.steps_inside[one.cell]
    else:
        best = world.steps_between[min(one.cell, other.cell)]
    hops = {}
    for function in one.functions:
        if function in other.functions and (function, rising) in best:
            cost, index = best[(function, rising)]
            hops[function] = (cost * abs(other.place - one.place), (index, function, one.spot, function, other.spot))
    return hops


def cost_limit(world):
    """As much as any chain without a ring costs at most, wherever it turns."""
    last = world.rules.last
    greatest = 1
    for clause in world.rules.told:
        if clause.kind == "bound" or clause.kind == "pair":
            greatest = max(greatest, abs(clause.slope) * last + abs(clause.height))
        elif clause.kind == "step":
            greatest = max(greatest, abs(clause.height) * last)
    # Each cell has two nodes at most, and one place beside them may be of interest.
    return greatest * (2 * len(world.cells) * len(world.rules.functions) + 4)


def _cells(rules, places):
    begins = {0: True}
    for clause in rules.told:
        for first, last in clause.places.stretches:
            begins[first] = True
            begins[last + 1] = True
    for place in places:
        begins[place] = True
        begins[place + 1] = True
    firsts = sorted([first for first in begins if first <= rules.last])
    lasts = [first - 1 for first in firsts[1:]] + [rules.last]
    return list(zip(firsts, lasts))


def _uprights(rules, cover):
    """What bounds and pairs allow: (start, goal, line, index), the line the cost by the place."""
    rows = []
    for index in cover:
        clause = rules.told[index]
        if clause.kind == "bound" or clause.kind == "pair":
            beside = clause.other if clause.kind == "pair" else None
            if clause.sign != ">=":
                rows.append((beside, clause.function, clause.line(), index))
            if clause.sign != "<=":
                rows.append((clause.function, beside, -clause.line(), index))
    return rows


def _best_steps(rules, cover):
    """For functions and ways (True is up) the least cost of a step by one place, with its clause."""
    best = {}
    for index in cover:
        clause = rules.told[index]
        if clause.sign != ">=":
            _keep_least(best, (clause.function, True), (clause.height, index))
        if clause.sign != "<=":
            _keep_least(best, (clause.function, False), (-clause.height, index))
    return best


def _keep_least(best, key, found):
    if key not in best or found < best[key]:
        best[key] = found
