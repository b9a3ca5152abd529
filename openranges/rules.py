"""Rules: clauses over some functions and the places up to a last one."""

from openranges.clauses import is_clause
from openranges.errors import BadFunctions, NoClause, NoFunction, NoPlace, TooMany, Twice
from openranges.integers import is_place
from openranges.words import check_word

MOST_FUNCTIONS = 3
_MOST_CLAUSES = 60


class Rules:
    """The clauses of a list over functions and the places from 0 to last."""

    def __init__(self, functions, last, told):
        _check_functions(functions)
        if not is_place(last):
            raise NoPlace(last)
        if len(told) > _MOST_CLAUSES:
            raise TooMany(len(told))
        for index, clause in enumerate(told):
            if not is_clause(clause):
                raise NoClause(index)
            check_fits(clause, functions, last)
        self.functions = tuple(functions)
        self.last = last
        self.told = tuple(told)

    def __eq__(self, other):
        if not isinstance(other, Rules):
            return False
        return self.functions == other.functions and self.last == other.last and self.told == other.told


def check_fits(clause, functions, last):
    """Raises NoFunction or NoPlace if a clause is not over these functions and the places up to last."""
    for function in clause.functions_told():
        if function not in functions:
            raise NoFunction(function)
    greatest = clause.places.greatest()
    if greatest is not None and greatest > last:
        raise NoPlace(clause.places[clause.places.rank(last + 1)])


def _check_functions(functions):
    if not 1 <= len(functions) <= MOST_FUNCTIONS:
        raise BadFunctions(len(functions))
    for index, word in enumerate(functions):
        check_word(word)
        if word in functions[:index]:
            raise Twice(word)
