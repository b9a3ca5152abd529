"""Spots: a place, or ("x", d) for the place x + d. Here each is a Line, whose value at x is the place."""

from openranges.integers import is_integer
from openranges.lines import Line, value_at


def place_line(value):
    """The line of any value that is an integer, or None."""
    return Line(0, value) if is_integer(value) else None


def spot_line(value):
    """The line of any value that is a spot, or None."""
    if is_integer(value):
        return Line(0, value)
    if not isinstance(value, (tuple, list)) or len(value) != 2 or not is_string(value[0], "x"):
        return None
    return Line(1, value[1]) if is_integer(value[1]) else None


def is_string(value, text):
    """Whether any value is a string, and this one."""
    return isinstance(value, str) and value == text


def is_sequence(value, many):
    """Whether any value is a tuple or list of so many parts."""
    return isinstance(value, (tuple, list)) and len(value) == many


class Stretch:
    """All x from first to last, for which spots are compared."""

    def __init__(self, first, last):
        self.first = first
        self.last = last

    def never_above(self, one, other):
        """Whether a line is at most another one at every x."""
        at_first = value_at(one, self.first) <= value_at(other, self.first)
        return at_first and value_at(one, self.last) <= value_at(other, self.last)

    def always_same(self, one, other):
        """Whether two lines are equal at every x."""
        return self.never_above(one, other) and self.never_above(other, one)

    def swept_within(self, low, high, places):
        """Whether all from low to high, two spots in order, are among the places for every x."""
        # Each x moves the ends by one place at most, so the places for all x are one stretch.
        first = value_at(low, self.first)
        last = value_at(high, self.last)
        return last in places and places.rank(last) - places.rank(first) == last - first

    def covered(self, low, high, covers):
        """Whether all from low to high, two spots in order, are in pairs of spots (low, high) for every x."""
        for begin, end in covers:
            if self.never_above(begin, low) and self.never_above(high, end):
                return True
        spots = [low, high] + [spot for pair in covers for spot in pair]
        return all([_covered_at(x, low, high, covers) for x in self._turning(spots)])

    def _turning(self, spots):
        """One x at least of each part of the stretch in which the spots lie to one another in one way."""
        fixed = {spot.height: True for spot in spots if spot.slope == 0}
        moving = {spot.height: True for spot in spots if spot.slope == 1}
        turns = {self.first: True, self.last: True}
        for height in fixed:
            for offset in moving:
                # The order of two spots turns where they meet, and whether they touch one place beside.
                for x in range(height - offset - 2, height - offset + 3):
                    if self.first <= x <= self.last:
                        turns[x] = True
        return sorted(list(turns))


def _covered_at(x, low, high, covers):
    """Whether the places from low to high are in pairs of spots, for one x."""
    reached = value_at(low, x)
    stop = value_at(high, x)
    for begin, end in sorted([(value_at(one, x), value_at(other, x)) for one, other in covers]):
        if begin > reached or reached > stop:
            break
        reached = max(reached, end + 1)
    return reached > stop
