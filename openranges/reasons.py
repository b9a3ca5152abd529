"""Why calls are in a grown set, and what is wrong with it: rows, and calls that are barred."""


def rows_for(rules, grown, wanted):
    """The rows that show the wanted calls (function, first, last), in order, without those that do not matter."""
    needed = {function: [] for function in grown.have}
    for function, first, last in wanted:
        needed[function].append((first, last))
    kept = []
    for row in grown.rows[::-1]:
        function, first, last, reason = row
        if any([low <= last and first <= high for low, high in needed[function]]):
            kept.append(row)
            _need_source(rules, row, needed)
    return kept[::-1]


def rows_to_bar(rules, grown, function, place):
    """The rows that show a call, the last one with this place alone."""
    rows = rows_for(rules, grown, [(function, place, place)])
    if rows[-1][1] < rows[-1][2]:
        # The row itself has the place beside that the same reason needs, or begins at this place.
        rows = rows + [(function, place, place, rows[-1][3])]
    return rows


def _need_source(rules, row, needed):
    """Adds the calls that a row rests on."""
    function, first, last, reason = row
    if reason[0] == "needs":
        needed[rules.told[reason[1]].other].append((first, last))
    elif reason[0] == "up":
        needed[function].append((first - 1, first - 1))
    elif reason[0] == "down":
        needed[function].append((last + 1, last + 1))


def barred_call(rules, grown):
    """The first barred call of the grown set, as (index, function, place), or None."""
    found = []
    for index, clause in enumerate(rules.told):
        if clause.kind == "refuses":
            both = clause.places & grown.have[clause.function]
            if bool(both):
                found.append((both.least(), rules.functions.index(clause.function), index))
    if not found:
        return None
    place, at, index = min(found)
    return (index, rules.functions[at], place)
