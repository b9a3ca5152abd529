"""Where rows of stretches have places in common."""


def overlaps(ones, others):
    """For two rows that begin with first and last, ascending: (first, last, at, beside) for each two that overlap.

    At and beside are the indexes of the two.
    """
    rows = []
    at = 0
    beside = 0
    while at < len(ones) and beside < len(others):
        first = max(ones[at][0], others[beside][0])
        last = min(ones[at][1], others[beside][1])
        if first <= last:
            rows.append((first, last, at, beside))
        if ones[at][1] < others[beside][1]:
            at += 1
        else:
            beside += 1
    return rows
