"""Forms: stretches of x over which one asks calls at x and the grown set looks the same but for x itself."""

from openranges.grown import grown_further, grown_set
from openranges.walks import begun, met, walked_over
from openranges.worlds import Node, World, cell_nodes


class Basis:
    """The grown set of the rules alone, cell by cell, with the walks over it from either end."""

    def __init__(self, rules):
        self.rules = rules
        self.grown = grown_set(rules, [])
        self.world = World(rules)
        self.members = [self.grown.functions_at(first) for first, _ in self.world.cells]
        many = len(self.world.cells)
        self.left = Side(self.world, self.members, [index for index in range(many)], False)
        self.right = Side(self.world, self.members, [many - 1 - index for index in range(many)], True)


class Side:
    """The states of walks over cells in one order, kept for each way in which the cells may be grown.

    What is grown further than in the basis is a tuple of (low, high, function): the cells by their index in the order.
    """

    def __init__(self, world, members, order, backward):
        self._world = world
        self._members = members
        self._order = order
        self._backward = backward
        self._states = [(begun(), None)]
        self._numbers = {}
        self._known = {}
        self._plain = [0]
        for at in range(len(order)):
            self._plain.append(self._one_more(self._plain[at], at, ()))

    def walk(self, many, further):
        """The state over so many cells and their last node."""
        further = _up_to(further, many)
        unknown = []
        while further and (many, further) not in self._known:
            unknown.append((many, further))
            many = many - 1
            further = _up_to(further, many)
        number = self._known[(many, further)] if further else self._plain[many]
        for key in unknown[::-1]:
            number = self._one_more(number, key[0] - 1, key[1])
            self._known[key] = number
        return self._states[number]

    def _one_more(self, number, at, further):
        """The number of the state with one more cell."""
        cell = self._order[at]
        more = [function for low, high, function in further if low <= at <= high]
        members = self._members[cell]
        if more:
            members = tuple([one for one in self._world.rules.functions if one in members or one in more])
        key = (number, members)
        if key not in self._numbers:
            state, before = self._states[number]
            nodes = cell_nodes(self._world, cell, members)
            if self._backward:
                nodes = nodes[::-1]
            self._numbers[key] = len(self._states)
            self._states.append((walked_over(self._world, state, before, nodes), nodes[-1]))
        return self._numbers[key]


class Form:
    """The x from first to last, with calls (function, d) asked at x + d.

    The grown set is that for one of these x, the middle; the spots of its places tell what it is for the others.
    If the form moves, all x lie inside one cell; otherwise there is one x.
    """

    def __init__(self, basis, first, last, middle, question):
        self.basis = basis
        self.first = first
        self.last = last
        self.middle = middle
        self.moves = first < last
        self._begin = basis.world.cell_at(middle)
        self._end = basis.world.cell_at(middle + question.width)
        self._width = question.width
        asked = [(function, middle + by) for function, by in question.asked]
        self.grown = grown_further(basis.rules, basis.grown, asked)
        self._kept = [(function, self.spot_of(place)) for function, place in asked] if question.sums else []
        self._sides = None
        self._known = {}

    def spot_of(self, place):
        """The spot of a place that is given for the middle."""
        first, last = self.basis.world.cells[self._begin]
        return ("x", place - self.middle) if self.moves and first < place < last else place

    def label(self, call):
        """What states call the asked call (function, d), or None for nought."""
        return None if call is None else self._kept.index((call[0], self.spot_of(self.middle + call[1])))

    def costs_at(self, x):
        """The state of a walk over all cells, for one x."""
        if x not in self._known:
            self._known[x] = self._walk_at(x)
        return self._known[x]

    def _walk_at(self, x):
        if self._sides is None:
            self._sides = self._walk_sides()
        (state, before), (other, behind) = self._sides
        world = self.basis.world
        nodes = self._nodes_at(x)
        state = walked_over(world, state, before, nodes, self._kept)
        return state if behind is None else met(world, state, nodes[-1], other, behind, self._kept)

    def _walk_sides(self):
        """The walks from the left and from the right up to the cells of x."""
        basis = self.basis
        many = len(basis.world.cells)
        ahead = []
        behind = []
        for function in basis.rules.functions:
            for first, last in (self.grown.have[function] - basis.grown.have[function]).stretches:
                low, high = basis.world.cell_at(first), basis.world.cell_at(last)
                ahead.append((low, high, function))
                behind.append((many - 1 - high, many - 1 - low, function))
        return (basis.left.walk(self._begin, tuple(ahead)), basis.right.walk(many - 1 - self._end, tuple(behind)))

    def _nodes_at(self, x):
        """The nodes of the cells of x, from left to right."""
        places = {}
        for cell in range(self._begin, self._end + 1):
            for place in self.basis.world.cells[cell]:
                places[place] = cell
        for place in range(self.middle, self.middle + self._width + 1):
            places[place] = self.basis.world.cell_at(place)
        nodes = []
        for place in sorted(list(places)):
            spot = self.spot_of(place)
            moved = place if isinstance(spot, int) else place + x - self.middle
            nodes.append(Node(moved, spot, places[place], self.grown.functions_at(place)))
        return nodes


def _up_to(further, many):
    """What is grown further in the first cells, so many."""
    return tuple([(low, min(high, many - 1), function) for low, high, function in further if low < many])


def forms_of(basis, places, question):
    """Forms that together have just the x that are given as Places, ascending."""
    forms = []
    for first, last in places.stretches:
        for cell in range(basis.world.cell_at(first), basis.world.cell_at(last) + 1):
            begin, end = basis.world.cells[cell]
            for low, high in _cut(max(first, begin), min(last, end), begin, end - question.width):
                # Two places from the end of the cell at least, so that no place beside x is one of its ends.
                middle = low if low == high else low + 1
                forms.append(Form(basis, low, high, middle, question))
    return forms


def _cut(first, last, begin, end):
    """The x from first to last, cut so that those strictly between begin and end are together."""
    low = max(first, begin + 1)
    high = min(last, end - 1)
    if high - low < 2:
        return [(x, x) for x in range(first, last + 1)]
    ahead = [(x, x) for x in range(first, low)]
    return ahead + [(low, high)] + [(x, x) for x in range(high + 1, last + 1)]
