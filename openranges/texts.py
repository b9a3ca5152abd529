"""Texts of clauses and of specifications, written and read."""

from openranges.errors import BadLine, BadText
from openranges.integers import LAST_PLACE, read_place
from openranges.reader import Reader, read_whole_clause
from openranges.rules import MOST_FUNCTIONS
from openranges.specs import MOST_ENTRIES, Spec
from openranges.words import is_name, is_word


def read_clause(text):
    """The clause with this text."""
    if not isinstance(text, str):
        raise BadText(0)
    return read_whole_clause(Reader(text.split(" "), 0, None, LAST_PLACE))


def write_spec(spec):
    """The text of a specification: its functions, its last place, then its entries, each in a line of its own."""
    heads = [" ".join(["functions", *spec.rules.functions]), f"last {spec.rules.last}"]
    return "\n".join(heads + [f"{name} {clause.text()}" for name, clause in spec.entries])


def read_spec(text):
    """The specification with this text."""
    rows = [line.split(" ") for line in text.split("\n")]
    functions = _functions_of(rows[0])
    last = _last_of(rows[1] if len(rows) > 1 else [])
    spec = Spec(functions, last)
    for row in range(2, len(rows)):
        _read_entry(spec, row, rows[row])
    return spec


def _functions_of(words):
    """The functions that the words of the first line tell."""
    if words[0] != "functions":
        raise BadLine(0, 0)
    if len(words) < 2:
        raise BadLine(0, 1)
    for index in range(1, len(words)):
        if index > MOST_FUNCTIONS or not is_word(words[index]) or words[index] in words[1:index]:
            raise BadLine(0, index)
    return words[1:]


def _last_of(words):
    """The last place that the words of the second line tell."""
    if not words or words[0] != "last":
        raise BadLine(1, 0)
    last = read_place(words[1]) if len(words) > 1 else None
    if last is None:
        raise BadLine(1, 1)
    if len(words) > 2:
        raise BadLine(1, 2)
    return last


def _read_entry(spec, row, words):
    """Adds the entry that the words of a line tell."""
    name = words[0]
    if not is_name(name) or name in spec.names or len(spec) == MOST_ENTRIES:
        raise BadLine(row, 0)
    try:
        clause = read_whole_clause(Reader(words, 1, spec.rules.functions, spec.rules.last))
    except BadText as wrong:
        raise BadLine(row, wrong.index) from None
    spec[name] = clause
