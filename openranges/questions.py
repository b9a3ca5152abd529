"""What a claim asks at x: calls are pairs (function, d), for the place x + d."""

from openranges.lines import Line


class Question:
    """What is asked for a claim at x, what it wants to be answered, and what chains show it.

    Sums are tuples (start, goal, line): two calls or None for nought, and the most that a chain between them may cost.
    """

    def __init__(self, claim):
        self.asked = _asked(claim)
        self.wanted = _wanted(claim)
        self.sums = _sums(claim)
        self.width = 1 if claim.kind == "spreads" or claim.kind == "step" else 0


def asks_of(claim):
    """The Places of all x of which a claim says something."""
    return claim.places.inner() if claim.kind == "spreads" or claim.kind == "step" else claim.places


def _asked(claim):
    function = claim.function
    if claim.kind == "answers":
        return []
    if claim.kind == "needs":
        return [(claim.other, 0)]
    if claim.kind == "pair":
        return [(function, 0), (claim.other, 0)]
    if claim.kind == "step":
        return [(function, 0), (function, 1)]
    if claim.kind == "spreads" and claim.way == "down":
        return [(function, 1)]
    return [(function, 0)]


def _wanted(claim):
    if claim.kind == "answers" or claim.kind == "needs":
        return (claim.function, 0)
    if claim.kind == "spreads":
        return (claim.function, 1 if claim.way == "up" else 0)
    return None


def _sums(claim):
    if claim.kind == "bound":
        start, goal, line = None, (claim.function, 0), claim.line()
    elif claim.kind == "pair":
        start, goal, line = (claim.other, 0), (claim.function, 0), claim.line()
    elif claim.kind == "step":
        start, goal, line = (claim.function, 0), (claim.function, 1), Line(0, claim.height)
    else:
        return []
    rows = []
    if claim.sign != ">=":
        rows.append((start, goal, line))
    if claim.sign != "<=":
        rows.append((goal, start, -line))
    return rows
