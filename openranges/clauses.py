"""The seven kinds of clauses: what a specification may say of its functions."""

from openranges.integers import decimal
from openranges.lines import Line
from openranges.words import check_factor, check_sign, check_two_words, check_word

SIGNS = ("<=", ">=", "=")
WAYS = ("up", "down")

_TURNED = {"<=": ">=", ">=": "<=", "=": "=", "up": "down", "down": "up"}


class Answers:
    """The function answers at each of the places."""

    def __init__(self, function, places):
        check_word(function)
        self.kind = "answers"
        self.function = function
        self.places = places

    def __eq__(self, other):
        return isinstance(other, Answers) and self.function == other.function and self.places == other.places

    def functions_told(self):
        return (self.function,)

    def negated(self):
        return Answers(self.function, self.places)

    def times(self, factor):
        check_factor(factor)
        return Answers(self.function, self.places)

    def moved(self, by):
        return Answers(self.function, self.places.shifted(by))

    def mirrored(self, last):
        return Answers(self.function, self.places.mirrored(last))

    def text(self):
        return _beginning(self)


class Refuses:
    """The function answers at none of the places."""

    def __init__(self, function, places):
        check_word(function)
        self.kind = "refuses"
        self.function = function
        self.places = places

    def __eq__(self, other):
        return isinstance(other, Refuses) and self.function == other.function and self.places == other.places

    def functions_told(self):
        return (self.function,)

    def negated(self):
        return Refuses(self.function, self.places)

    def times(self, factor):
        check_factor(factor)
        return Refuses(self.function, self.places)

    def moved(self, by):
        return Refuses(self.function, self.places.shifted(by))

    def mirrored(self, last):
        return Refuses(self.function, self.places.mirrored(last))

    def text(self):
        return _beginning(self)


class Needs:
    """The function answers at each of the places at which the other one answers."""

    def __init__(self, function, places, other):
        check_two_words(function, other)
        self.kind = "needs"
        self.function = function
        self.places = places
        self.other = other

    def __eq__(self, other):
        if not isinstance(other, Needs):
            return False
        return self.function == other.function and self.places == other.places and self.other == other.other

    def functions_told(self):
        return (self.function, self.other)

    def negated(self):
        return Needs(self.function, self.places, self.other)

    def times(self, factor):
        check_factor(factor)
        return Needs(self.function, self.places, self.other)

    def moved(self, by):
        return Needs(self.function, self.places.shifted(by), self.other)

    def mirrored(self, last):
        return Needs(self.function, self.places.mirrored(last), self.other)

    def text(self):
        return f"{_beginning(self)} {self.other}"


class Spreads:
    """Where the function answers, it answers at the next place of the way too, among the places."""

    def __init__(self, function, places, way):
        check_word(function)
        check_sign(way, WAYS)
        self.kind = "spreads"
        self.function = function
        self.places = places
        self.way = way

    def __eq__(self, other):
        if not isinstance(other, Spreads):
            return False
        return self.function == other.function and self.places == other.places and self.way == other.way

    def functions_told(self):
        return (self.function,)

    def negated(self):
        return Spreads(self.function, self.places, self.way)

    def times(self, factor):
        check_factor(factor)
        return Spreads(self.function, self.places, self.way)

    def moved(self, by):
        return Spreads(self.function, self.places.shifted(by), self.way)

    def mirrored(self, last):
        return Spreads(self.function, self.places.mirrored(last), _TURNED[self.way])

    def text(self):
        return f"{_beginning(self)} {self.way}"


class Bound:
    """Where the function answers, its answer keeps to a line."""

    def __init__(self, function, places, sign, slope, height):
        check_word(function)
        check_sign(sign, SIGNS)
        self.kind = "bound"
        self.function = function
        self.places = places
        self.sign = sign
        self.slope = slope
        self.height = height

    def __eq__(self, other):
        if not isinstance(other, Bound) or self.sign != other.sign:
            return False
        same_line = self.slope == other.slope and self.height == other.height
        return same_line and self.function == other.function and self.places == other.places

    def line(self):
        return Line(self.slope, self.height)

    def functions_told(self):
        return (self.function,)

    def negated(self):
        return Bound(self.function, self.places, _TURNED[self.sign], -self.slope, -self.height)

    def times(self, factor):
        check_factor(factor)
        return Bound(self.function, self.places, self.sign, self.slope * factor, self.height * factor)

    def moved(self, by):
        line = self.line().moved(by)
        return Bound(self.function, self.places.shifted(by), self.sign, line.slope, line.height)

    def mirrored(self, last):
        line = self.line().mirrored(last)
        return Bound(self.function, self.places.mirrored(last), self.sign, line.slope, line.height)

    def text(self):
        return f"{_beginning(self)} {self.sign} {self.line().text()}"


class Pair:
    """Where both functions answer, the answer of the one keeps to that of the other one and a line."""

    def __init__(self, function, places, sign, other, slope, height):
        check_two_words(function, other)
        check_sign(sign, SIGNS)
        self.kind = "pair"
        self.function = function
        self.places = places
        self.sign = sign
        self.other = other
        self.slope = slope
        self.height = height

    def __eq__(self, other):
        if not isinstance(other, Pair) or self.sign != other.sign:
            return False
        same_functions = self.function == other.function and self.other == other.other
        same_line = self.slope == other.slope and self.height == other.height
        return same_functions and same_line and self.places == other.places

    def line(self):
        return Line(self.slope, self.height)

    def functions_told(self):
        return (self.function, self.other)

    def negated(self):
        return Pair(self.function, self.places, _TURNED[self.sign], self.other, -self.slope, -self.height)

    def times(self, factor):
        check_factor(factor)
        slope, height = self.slope * factor, self.height * factor
        return Pair(self.function, self.places, self.sign, self.other, slope, height)

    def moved(self, by):
        line = self.line().moved(by)
        return Pair(self.function, self.places.shifted(by), self.sign, self.other, line.slope, line.height)

    def mirrored(self, last):
        line = self.line().mirrored(last)
        return Pair(self.function, self.places.mirrored(last), self.sign, self.other, line.slope, line.height)

    def text(self):
        return f"{_beginning(self)} {self.sign} {self.other}{_added_text(self.line())}"


class Step:
    """Where the function answers at two places side by side, its rise keeps to a number."""

    def __init__(self, function, places, sign, height):
        check_word(function)
        check_sign(sign, SIGNS)
        self.kind = "step"
        self.function = function
        self.places = places
        self.sign = sign
        self.height = height

    def __eq__(self, other):
        if not isinstance(other, Step) or self.sign != other.sign:
            return False
        return self.function == other.function and self.places == other.places and self.height == other.height

    def functions_told(self):
        return (self.function,)

    def negated(self):
        return Step(self.function, self.places, _TURNED[self.sign], -self.height)

    def times(self, factor):
        check_factor(factor)
        return Step(self.function, self.places, self.sign, self.height * factor)

    def moved(self, by):
        return Step(self.function, self.places.shifted(by), self.sign, self.height)

    def mirrored(self, last):
        return Step(self.function, self.places.mirrored(last), _TURNED[self.sign], -self.height)

    def text(self):
        return f"{_beginning(self)} {self.sign} {decimal(self.height)}"


def is_clause(value):
    """Whether any value is a clause."""
    return isinstance(value, (Answers, Refuses, Needs, Spreads, Bound, Pair, Step))


def has_number(value):
    """Whether any value is a clause about numbers, so that it has a sign and a height."""
    return isinstance(value, (Bound, Pair, Step))


def with_height(clause, height):
    """The same clause about numbers with another height."""
    if clause.kind == "bound":
        return Bound(clause.function, clause.places, clause.sign, clause.slope, height)
    if clause.kind == "pair":
        return Pair(clause.function, clause.places, clause.sign, clause.other, clause.slope, height)
    return Step(clause.function, clause.places, clause.sign, height)


def _beginning(clause):
    """What the texts of all kinds begin with."""
    return f"{clause.kind} {clause.function} {clause.places.text()}"


def _added_text(line):
    """The text of a line behind a function, with a blank ahead of it; nothing for the line 0."""
    text = line.text()
    if text == "0":
        return ""
    return f" - {text[1:]}" if text.startswith("-") else f" + {text}"
