"""Texts of clauses, read word by word."""

from openranges.clauses import SIGNS, WAYS, Answers, Bound, Needs, Pair, Refuses, Spreads, Step
from openranges.errors import BadText
from openranges.integers import read_decimal
from openranges.lines import Line
from openranges.places import Places, read_stretches
from openranges.words import is_word


class Reader:
    """Words that are read from left to right, in a world of functions (None for any) and places up to last.

    The first wrong word raises BadText with its index; so does the end, if a word is missing there.
    """

    def __init__(self, words, begin, functions, last):
        self._words = words
        self._at = begin
        self._functions = functions
        self._last = last

    def is_done(self):
        """Whether no word is left."""
        return self._at >= len(self._words)

    def peek(self):
        """The next word, or None."""
        return None if self.is_done() else self._words[self._at]

    def take(self):
        """The next word, which is read by this."""
        if self.is_done():
            raise BadText(len(self._words))
        self._at += 1
        return self._words[self._at - 1]

    def check_last(self, is_right):
        """Raises BadText for the word that was read last unless it is right."""
        if not is_right:
            raise BadText(self._at - 1)

    def take_one_of(self, allowed):
        """The next word, which is one of some."""
        word = self.take()
        self.check_last(word in allowed)
        return word

    def take_function(self):
        """The next word, which is a function."""
        word = self.take()
        self.check_last(is_word(word) and (self._functions is None or word in self._functions))
        return word

    def take_places(self):
        """The next words as Places."""
        if self.peek() == "none":
            self._at += 1
            return Places()
        begin = self._at
        while not self.is_done() and self.peek()[:1].isdigit():
            self._at += 1
        if self._at == begin:
            raise BadText(begin)
        return Places(read_stretches(self._words, begin, self._at, self._last))

    def check_done(self):
        """Raises BadText if a word is left."""
        if not self.is_done():
            raise BadText(self._at)


def read_whole_clause(reader):
    """The clause whose text a reader has, to the last word."""
    kind = reader.take_one_of(list(_KINDS))
    function = reader.take_function()
    places = reader.take_places()
    action = _KINDS[kind]
    clause = action(reader, function, places)
    reader.check_done()
    return clause


def _read_answers(reader, function, places):
    return Answers(function, places)


def _read_refuses(reader, function, places):
    return Refuses(function, places)


def _read_needs(reader, function, places):
    return Needs(function, places, _read_other(reader, function))


def _read_spreads(reader, function, places):
    return Spreads(function, places, reader.take_one_of(WAYS))


def _read_bound(reader, function, places):
    sign = reader.take_one_of(SIGNS)
    line = _read_line(reader)
    return Bound(function, places, sign, line.slope, line.height)


def _read_pair(reader, function, places):
    sign = reader.take_one_of(SIGNS)
    other = _read_other(reader, function)
    line = _read_added_line(reader)
    return Pair(function, places, sign, other, line.slope, line.height)


def _read_step(reader, function, places):
    sign = reader.take_one_of(SIGNS)
    height = read_decimal(reader.take())
    reader.check_last(height is not None)
    return Step(function, places, sign, height)


def _read_other(reader, function):
    """A function that is not the first one."""
    other = reader.take_function()
    reader.check_last(other != function)
    return other


def _read_line(reader):
    """A line as `2 x + 3`, to the end."""
    word = reader.take()
    if word == "0":
        return Line(0, 0)
    return _line_from(reader, word[1:], -1) if word.startswith("-") else _line_from(reader, word, 1)


def _read_added_line(reader):
    """A line behind a function, as `+ 2 x + 3`, to the end; the line 0 if there is none."""
    if reader.is_done():
        return Line(0, 0)
    by = _read_plus_or_minus(reader)
    return _line_from(reader, reader.take(), by)


def _line_from(reader, term, by):
    """The line whose first term, without its sign, was read last; by is 1 or -1 for that sign."""
    if term == "x":
        return Line(by, _read_height(reader))
    number = _above_nought(reader, term)
    # The slopes 1 and -1 are written without a number.
    if number == 1 or reader.peek() != "x":
        return Line(0, by * number)
    reader.take()
    return Line(by * number, _read_height(reader))


def _read_height(reader):
    """What follows the term of the slope, as `+ 3`; 0 if there is nothing."""
    if reader.is_done():
        return 0
    by = _read_plus_or_minus(reader)
    return by * _above_nought(reader, reader.take())


def _read_plus_or_minus(reader):
    return 1 if reader.take_one_of(("+", "-")) == "+" else -1


def _above_nought(reader, word):
    """The number above 0 that is written as the word that was read last, or as a part of it."""
    number = read_decimal(word)
    reader.check_last(number is not None and number > 0)
    return number


_KINDS = {
    "answers": _read_answers,
    "refuses": _read_refuses,
    "needs": _read_needs,
    "spreads": _read_spreads,
    "bound": _read_bound,
    "pair": _read_pair,
    "step": _read_step,
}
