"""Rows of pieces (first, last, what holds there): their one form, and where two rows lie side by side."""

from openranges.lines import Line, first_above, value_at
from openranges.overlaps import overlaps


def one_form(pieces):
    """Pieces of answers (a Line) and refusals (None), in the form that depends on the outcomes alone."""
    rows = []
    for first, last, line in pieces:
        start = first
        if rows:
            rows[-1] = _continued(rows[-1], first, last, line)
            start = rows[-1][1] + 1
        if start <= last:
            rows.append((start, last, line))
    return tuple([_plain(first, last, line) for first, last, line in rows])


def _continued(row, first, last, line):
    """A row with as much of the next piece as it has of the same kind, or on the same line."""
    start, end, held = row
    if held is None or line is None:
        return (start, last, None) if held is None and line is None else row
    if start == end:
        held = line_through(start, value_at(held, start), value_at(line, first))
    elif value_at(held, first) != value_at(line, first):
        return row
    return (start, last if held.slope == line.slope else first, held)


def line_through(x, here, beyond):
    """The line with these values at x and at x + 1."""
    slope = beyond - here
    return Line(slope, here - slope * x)


def _plain(first, last, line):
    """A piece, with the slope 0 if it has an answer at one place alone."""
    return (first, last, Line(0, value_at(line, first)) if line is not None and first == last else line)


def side_by_side(ones, others):
    """For rows of pieces in ascending order: (first, last, one, other) wherever both have a piece."""
    found = overlaps(ones, others)
    return [(first, last, ones[at][2], others[beside][2]) for first, last, at, beside in found]


def where_above(line, first, last):
    """The stretches, none or one, from first to last at which a line is above 0."""
    nought = Line(0, 0)
    start = first_above(line, nought, first)
    if start is None or start > last:
        return []
    # Where a falling line begins above 0, it stays so until 1 less than it is above 0.
    stop = first_above(1 - line, nought, start)
    return [(start, last if stop is None else min(last, stop - 1))]
