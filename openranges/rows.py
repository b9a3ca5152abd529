"""Rows with spots: whether they are right for every x of a stretch."""

from openranges.integers import is_integer
from openranges.spots import is_sequence, is_string


def first_wrong_row(rules, rows, asked, stretch, reader):
    """The index of the first row that is not right for some x of the stretch, or -1; 0 for no list or tuple.

    Spots are read by a function that gives None for what is none; asked are pairs of a function and a Line.
    """
    if not isinstance(rows, (tuple, list)):
        return 0
    above = []
    for index, row in enumerate(rows):
        known = read_row(row, reader)
        if known is None or not stretch.never_above(known[1], known[2]):
            return index
        if not _is_right(rules, known, row[3], asked, above, stretch):
            return index
        above.append(known)
    return -1


def read_row(value, reader):
    """The function and the two Lines of any value that has the parts of a row, or None."""
    if not is_sequence(value, 4) or not isinstance(value[0], str):
        return None
    first = reader(value[1])
    last = reader(value[2])
    if first is None or last is None:
        return None
    return (value[0], first, last)


def covers_of(rows, function):
    """The pairs (first, last) of the rows of a function, as they are read; None stands for what is no row."""
    return [row[1:] for row in rows if row is not None and row[0] == function]


def lie_in(hops, rows, stretch):
    """Whether all calls of Hops are in the rows, as they are read, for every x."""
    for hop in hops:
        for function, low, high in hop.calls:
            if not stretch.covered(low, high, covers_of(rows, function)):
                return False
    return True


def clause_at(rules, index, kind):
    """The clause with an index, any value, if it is of this kind; or None."""
    if not is_integer(index) or not 0 <= index < len(rules.told) or rules.told[index].kind != kind:
        return None
    return rules.told[index]


def _is_right(rules, row, reason, asked, above, stretch):
    """Whether a row that was read is right by its reason, any value, and the rows above."""
    function, first, last = row
    if is_sequence(reason, 1) and is_string(reason[0], "asked"):
        calls = [(place, place) for name, place in asked if name == function]
        return stretch.always_same(first, last) and stretch.covered(first, last, calls)
    if not is_sequence(reason, 2):
        return False
    name, index = reason
    if is_string(name, "answers") or is_string(name, "needs"):
        clause = clause_at(rules, index, name)
        if clause is None or clause.function != function or not stretch.swept_within(first, last, clause.places):
            return False
        return name == "answers" or stretch.covered(first, last, covers_of(above, clause.other))
    clause = clause_at(rules, index, "spreads")
    if clause is None or clause.function != function or not is_string(name, clause.way):
        return False
    source = first - 1 if name == "up" else last + 1
    low, high = (source, last) if name == "up" else (first, source)
    if not stretch.swept_within(low, high, clause.places):
        return False
    return stretch.covered(source, source, covers_of(above, function))
