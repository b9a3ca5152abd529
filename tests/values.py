"""Values of every kind that a caller may pass as "any value"."""

from openranges.clauses import Answers, Step
from openranges.lines import Line
from openranges.places import Places
from openranges.programs import Program
from openranges.rules import Rules

FAR = 10 ** 30
BIG = 10 ** 80 - 1


def any_values():
    """None, bools, integers, strings, tuples, lists, dicts and objects of the package, nested too."""
    deep = [0]
    for _ in range(9):
        deep = [deep]
    return [
        None, True, False, 0, 1, -1, 7, FAR, -FAR, FAR + 1, BIG, -BIG,
        "", "f", "0", "0-3", "none", "with blanks and {braces}", "\u00e9",
        (), (0,), (0, 1), (True, 2), ((0, 1), (3, 4)), [], [0], [0, 1], [[0, 1]], deep,
        {}, {"f": [(0, 1, None)]}, {0: {1: 2}},
        Places([(0, 3)]), Places(), Line(1, 2), [Places([(0, 3)]), Line(0, 0)], Program(3, {"f": [(0, 3, Line(1, 0))]}),
        (Step("k", Places([(0, 3)]), "<=", 1),), Rules(["f"], 3, [Answers("f", Places([(0, 3)]))]),
    ]


def no_integers():
    """Values of every kind that are not integers."""
    return [value for value in any_values() if isinstance(value, bool) or not isinstance(value, int)]
