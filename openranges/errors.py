"""The errors: each has its fields as attributes and is directly below RangesError."""


class RangesError(ValueError):
    """What all errors of the package are."""


class BadStretch(RangesError):
    """An element of a list of stretches is no pair of places in order."""

    def __init__(self, index):
        self.index = index


class BadText(RangesError):
    """A value is not the text of anything: the index is that of its first wrong word."""

    def __init__(self, index):
        self.index = index


class BadLine(RangesError):
    """A text has a wrong line: row counts the lines, index the words of that line."""

    def __init__(self, row, index):
        self.row = row
        self.index = index


class BadWord(RangesError):
    """A value that should be a word is none."""

    def __init__(self, word):
        self.word = word


class SameFunction(RangesError):
    """Two functions that should differ are the same."""

    def __init__(self, function):
        self.function = function


class BadSign(RangesError):
    """A value is not the sign or the way that is wanted."""

    def __init__(self, sign):
        self.sign = sign


class BadFactor(RangesError):
    """A factor is not an integer from 1 on."""

    def __init__(self, factor):
        self.factor = factor


class BadPieces(RangesError):
    """The pieces of a function do not fit: the index is that of the first wrong one."""

    def __init__(self, function, index):
        self.function = function
        self.index = index


class OtherShape(RangesError):
    """Functions, in specifications also their order, or last places differ."""


class BadKind(RangesError):
    """A clause is of a kind that does not fit."""


class BadFunctions(RangesError):
    """There are too few or too many functions."""

    def __init__(self, count):
        self.count = count


class Twice(RangesError):
    """A function is named twice."""

    def __init__(self, word):
        self.word = word


class TooMany(RangesError):
    """There are more of something than may be."""

    def __init__(self, count):
        self.count = count


class NoFunction(RangesError):
    """A function is not there."""

    def __init__(self, function):
        self.function = function


class NoPlace(RangesError):
    """A value is not a place, or not one that is there."""

    def __init__(self, place):
        self.place = place


class NoClause(RangesError):
    """There is no clause at this index."""

    def __init__(self, index):
        self.index = index


class NoBound(RangesError):
    """The answers at a call have no bound."""

    def __init__(self, function, place):
        self.function = function
        self.place = place


class Impossible(RangesError):
    """No program is let."""


class BadName(RangesError):
    """A value that should be a name is none."""

    def __init__(self, name):
        self.name = name


class Unknown(RangesError):
    """A name is not there."""

    def __init__(self, name):
        self.name = name


class Known(RangesError):
    """A name is there already, with something else."""

    def __init__(self, name):
        self.name = name


class Settled(RangesError):
    """The outcome of a call has been told before."""

    def __init__(self, function, place):
        self.function = function
        self.place = place


class NotLet(RangesError):
    """No agreeing program has this outcome."""

    def __init__(self, function, place):
        self.function = function
        self.place = place


class NoFact(RangesError):
    """No fact has been told."""


class Unfair(RangesError):
    """Not even all clauses are enough."""
