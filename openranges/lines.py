"""Straight lines over the integers, and the least and the greatest of several."""

from openranges.integers import decimal, is_integer


class Line:
    """The straight line whose value at x is slope * x + height."""

    def __init__(self, slope, height):
        self.slope = slope
        self.height = height

    def __call__(self, x):
        return self.slope * x + self.height

    def __eq__(self, other):
        return isinstance(other, Line) and self.slope == other.slope and self.height == other.height

    def __add__(self, other):
        if isinstance(other, Line):
            return Line(self.slope + other.slope, self.height + other.height)
        if is_integer(other):
            return Line(self.slope, self.height + other)
        return NotImplemented

    def __radd__(self, other):
        return self + other

    def __neg__(self):
        return Line(-self.slope, -self.height)

    def __sub__(self, other):
        if isinstance(other, Line) or is_integer(other):
            return self + -other
        return NotImplemented

    def __rsub__(self, other):
        return -self + other

    def __mul__(self, other):
        if is_integer(other):
            return Line(self.slope * other, self.height * other)
        return NotImplemented

    def __rmul__(self, other):
        return self * other

    def moved(self, by):
        """The line whose value at x is that of this one at x - by."""
        return Line(self.slope, self.height - self.slope * by)

    def mirrored(self, last):
        """The line whose value at x is that of this one at last - x."""
        return Line(-self.slope, self.height + self.slope * last)

    def text(self):
        """The terms other than 0, as `2 x + 3`; `0` if there is none."""
        if self.slope == 0:
            return decimal(self.height)
        rising = _rising_text(self.slope)
        if self.height == 0:
            return rising
        sign = "+" if self.height > 0 else "-"
        return f"{rising} {sign} {decimal(abs(self.height))}"


def _rising_text(slope):
    """The term of a slope other than 0."""
    if slope == 1:
        return "x"
    if slope == -1:
        return "-x"
    return f"{decimal(slope)} x"


# What operators run calls no object, so this stands there in the place of line(x).
def value_at(line, x):
    """The value of a line at x."""
    return line.slope * x + line.height


def first_above(one, other, start):
    """The least integer x from start on with one(x) > other(x), or None."""
    lead = one - other
    if value_at(lead, start) > 0:
        return start
    if lead.slope <= 0:
        return None
    return -lead.height // lead.slope + 1


def lowest(lines, first, last):
    """The least values of the lines from first to last, as pieces (first, last, Line)."""
    starts = []
    # No line rises faster than the ones before it: where it gets below them, it stays below.
    for fall, height in sorted([(-line.slope, line.height) for line in lines]):
        line = Line(-fall, height)
        while starts and _takes_over(line, starts[-1]):
            starts.pop()
        start = first_above(starts[-1][1], line, first) if starts else first
        if start is not None and start <= last:
            starts.append((start, line))
    ends = [begin - 1 for begin, _ in starts[1:]] + [last]
    return [(begin, end, holder) for (begin, holder), end in zip(starts, ends)]


def _takes_over(line, begun):
    """Whether a line of no greater slope takes the whole of a piece that has begun."""
    start, holder = begun
    return value_at(line, start) <= value_at(holder, start)


def highest(lines, first, last):
    """The greatest values of the lines from first to last, as pieces (first, last, Line)."""
    turned = lowest([-line for line in lines], first, last)
    return [(start, end, -line) for start, end, line in turned]
