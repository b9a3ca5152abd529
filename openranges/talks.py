"""Talks: calls answered one after the other, as some let program would."""

from openranges.clauses import Answers, Bound, Refuses
from openranges.errors import NoFact, NotLet, Settled, TooMany
from openranges.grown import check_call
from openranges.ladders import answers_at, check_possible
from openranges.lets import let_program
from openranges.places import Places
from openranges.ranges import range_at, status
from openranges.rules import Rules

_MOST_FACTS = 24


class Talk:
    """Outcomes of calls, told one after the other, which some let program of a specification has all of."""

    def __init__(self, spec):
        check_possible(spec.rules)
        self._rules = spec.rules
        self._facts = ()
        # The let programs of these rules are those that agree.
        self._agreed = spec.rules

    @property
    def facts(self):
        """The triples (function, place, outcome) in the order in which they were told."""
        return self._facts

    def status(self, function, place):
        """What agreeing programs do at a call: "answers" if all do, "refuses" if none answers, "open" otherwise."""
        return status(self._agreed, function, place)

    def range_at(self, function, place):
        """The least and the greatest answer of agreeing programs, None for no bound; None if none answers."""
        return range_at(self._agreed, function, place)

    def answer(self, function, place, value):
        """Tells that a call is answered with an integer."""
        self._check_unsettled(function, place)
        if not _is_within(value, answers_at(self._agreed, (function, place))):
            raise NotLet(function, place)
        self._tell(function, place, value)

    def refuse(self, function, place):
        """Tells that a call is refused."""
        self._check_unsettled(function, place)
        if status(self._agreed, function, place) == "answers":
            raise NotLet(function, place)
        self._tell(function, place, None)

    def undo(self):
        """Takes the last fact back and returns it."""
        if not self._facts:
            raise NoFact()
        fact = self._facts[-1]
        self._take(self._facts[:-1])
        return fact

    def finish(self):
        """A program that agrees."""
        return let_program(self._agreed, [], None, 0)

    def _check_unsettled(self, function, place):
        check_call(self._agreed, (function, place))
        if (function, place) in [(name, told) for name, told, _ in self._facts]:
            raise Settled(function, place)

    def _tell(self, function, place, outcome):
        if len(self._facts) == _MOST_FACTS:
            raise TooMany(_MOST_FACTS + 1)
        self._take((*self._facts, (function, place, outcome)))

    def _take(self, facts):
        """Has these facts in the place of the present ones."""
        told = [clause for fact in facts for clause in _clauses_of(fact)]
        self._agreed = Rules(self._rules.functions, self._rules.last, [*self._rules.told, *told])
        self._facts = facts


def _is_within(value, ends):
    """Whether an integer is within a range, or within none at all."""
    if ends is None:
        return False
    low, high = ends
    return (low is None or low <= value) and (high is None or value <= high)


def _clauses_of(fact):
    """The clauses that are kept by the programs with this outcome."""
    function, place, outcome = fact
    here = Places([(place, place)])
    if outcome is None:
        return [Refuses(function, here)]
    return [Answers(function, here), Bound(function, here, "=", 0, outcome)]
