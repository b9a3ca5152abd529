"""Programs: what each function answers at each place, told by straight pieces."""

from openranges.clauses import has_number, with_height
from openranges.errors import BadKind, BadPieces, NoFunction, NoPlace, OtherShape
from openranges.integers import is_place
from openranges.lines import Line, highest, lowest, value_at
from openranges.pieces import one_form, side_by_side, where_above
from openranges.places import Places
from openranges.words import check_factor, check_word


class Program:
    """Functions over the places from 0 to last, each with an answer or a refusal at each place."""

    def __init__(self, last, told):
        words = [word for _, _, word in sorted([_ranked(word) for word in told])]
        for word in words:
            check_word(word)
        for word in words:
            _check_pieces(word, told[word], last)
        self.last = last
        self.functions = tuple(words)
        self._told = {word: one_form(told[word]) for word in words}

    def __call__(self, function, x):
        self._check_functions((function,))
        _check_place(x, self.last)
        line = _piece_at(self._told[function], x)[2]
        return None if line is None else value_at(line, x)

    def __eq__(self, other):
        return isinstance(other, Program) and self.last == other.last and self._told == other._told

    def __and__(self, other):
        return _joined(self, other, "<=")

    def __or__(self, other):
        return _joined(self, other, ">=")

    def pieces(self, function):
        """The pieces of a function in their one form, from left to right."""
        self._check_functions((function,))
        return list(self._told[function])

    def answered(self, function):
        """The Places at which a function answers."""
        return Places([(first, last) for first, last, _ in self._answers(function)])

    def breaches(self, clause):
        """The Places at which a clause is broken; the x of the pairs x, x + 1 where it speaks of two places."""
        self._check_functions(clause.functions_told())
        places = clause.places & Places([(0, self.last)])
        breaking = _BREACHES[clause.kind]
        return breaking(self, clause, places)

    def breach(self, clause):
        """The least place at which a clause is broken, or None."""
        return self.breaches(clause).least()

    def keeps(self, clauses):
        """Whether all clauses of a list are kept."""
        # All of them are looked at, so that a function that is not there is told in any case.
        return not any([bool(self.breaches(clause)) for clause in clauses])

    def changed(self, function, first, end, line):
        """The program with another piece of one function from first to end."""
        self._check_functions((function,))
        _check_place(first, self.last)
        if not is_place(end) or not first <= end <= self.last:
            raise NoPlace(end)
        pieces = self._told[function]
        ahead = [(begin, min(stop, first - 1), held) for begin, stop, held in pieces if begin < first]
        behind = [(max(begin, end + 1), stop, held) for begin, stop, held in pieces if stop > end]
        told = {word: self._told[word] for word in self.functions}
        told[function] = ahead + [(first, end, line)] + behind
        return Program(self.last, told)

    def negated(self):
        """The program with all answers negated."""
        return self._times(-1)

    def times(self, factor):
        """The program with all answers multiplied by an integer from 1 on."""
        check_factor(factor)
        return self._times(factor)

    def mirrored(self):
        """The program with the outcome of last - x at x."""
        return Program(self.last, {word: _mirrored(self._told[word], self.last) for word in self.functions})

    def _check_functions(self, functions):
        for function in functions:
            if function not in self.functions:
                raise NoFunction(function)

    def _answers(self, function):
        """The pieces of a function that are answers."""
        return [piece for piece in self.pieces(function) if piece[2] is not None]

    def _answers_beyond(self, function):
        """The pieces of answers with the answer at x + 1 told at x."""
        return [(first - 1, last - 1, line.moved(-1)) for first, last, line in self._answers(function)]

    def _times(self, factor):
        told = {}
        for word in self.functions:
            told[word] = [(first, last, _multiplied(line, factor)) for first, last, line in self._told[word]]
        return Program(self.last, told)


def first_difference(one, other):
    """The least x at which outcomes differ, with the first such function; None if there is none."""
    _check_shapes([one, other])
    found = None
    for function in one.functions:
        x = _first_unequal(one.pieces(function), other.pieces(function))
        if x is not None and (found is None or x < found[0]):
            found = (x, function)
    return found


def mined(programs, clause):
    """The strongest clause that differs from the given one in height alone and that all programs keep."""
    _check_shapes(programs)
    if not has_number(clause) or clause.sign == "=":
        raise BadKind()
    heights = []
    for program in programs:
        for first, last, one, other in _compared(program, with_height(clause, 0), clause.places):
            heights.extend([value_at(one - other, first), value_at(one - other, last)])
    if not heights:
        return None
    return with_height(clause, max(heights) if clause.sign == "<=" else min(heights))


def _ranked(word):
    """A key with what it is ordered by: what is no string stands ahead, so that no two kinds are compared."""
    if word is None:
        return (0, 0, word)
    return (2, word, word) if isinstance(word, str) else (1, word, word)


def _check_place(x, last):
    if not is_place(x) or x > last:
        raise NoPlace(x)


def _check_pieces(function, pieces, last):
    """Raises BadPieces with the first piece that does not go on from 0 to last."""
    start = 0
    for index, piece in enumerate(pieces):
        if not _is_piece(piece) or piece[0] != start or not start <= piece[1] <= last:
            raise BadPieces(function, index)
        start = piece[1] + 1
    if start <= last:
        raise BadPieces(function, len(pieces))


def _is_piece(value):
    """Whether any value has the parts of a piece."""
    if not isinstance(value, (tuple, list)) or len(value) != 3:
        return False
    first, last, line = value
    return is_place(first) and is_place(last) and (line is None or isinstance(line, Line))


def _check_shapes(programs):
    """Raises OtherShape unless there are programs, all of one last place and the same functions."""
    shapes = [(program.last, program.functions) for program in programs]
    if not shapes or any([shape != shapes[0] for shape in shapes]):
        raise OtherShape()


def _piece_at(pieces, x):
    """The piece that has the place x."""
    low = 0
    high = len(pieces) - 1
    while low < high:
        middle = (low + high) // 2
        if x <= pieces[middle][1]:
            high = middle
        else:
            low = middle + 1
    return pieces[low]


def _multiplied(line, factor):
    return None if line is None else line * factor


def _mirrored(pieces, last):
    """The pieces from right to left."""
    rows = []
    for first, end, line in pieces:
        rows.append((last - end, last - first, None if line is None else line.mirrored(last)))
    return rows[::-1]


def _joined(one, other, sign):
    """The program that answers where both do, with the lesser (<=) or the greater (>=) answer."""
    _check_shapes([one, other])
    return Program(one.last, {word: _chosen(one.pieces(word), other.pieces(word), sign) for word in one.functions})


def _chosen(ones, others, sign):
    """The lesser or the greater answers, where there are two, of two rows of pieces."""
    rows = []
    for first, last, line, beside in side_by_side(ones, others):
        if line is None or beside is None:
            rows.append((first, last, None))
        elif sign == "<=":
            rows.extend(lowest([line, beside], first, last))
        else:
            rows.extend(highest([line, beside], first, last))
    return rows


def _first_unequal(ones, others):
    """The least place at which two rows of pieces have different outcomes, or None."""
    for first, last, line, beside in side_by_side(ones, others):
        if line is None or beside is None:
            if line is not None or beside is not None:
                return first
        elif value_at(line, first) != value_at(beside, first):
            return first
        elif first < last and line.slope != beside.slope:
            return first + 1
    return None


def _unanswered(program, clause, places):
    return places - program.answered(clause.function)


def _not_refused(program, clause, places):
    return places & program.answered(clause.function)


def _needed(program, clause, places):
    return (places & program.answered(clause.other)) - program.answered(clause.function)


def _not_spread(program, clause, places):
    here = program.answered(clause.function)
    beyond = here.shifted(-1)
    return places.inner() & (here - beyond if clause.way == "up" else beyond - here)


def _off_line(program, clause, places):
    """The places at which what is compared does not keep to the sign."""
    stretches = []
    for first, last, one, other in _compared(program, clause, places):
        if clause.sign != ">=":
            stretches.extend(where_above(one - other, first, last))
        if clause.sign != "<=":
            stretches.extend(where_above(other - one, first, last))
    return Places(stretches)


def _compared(program, clause, places):
    """What a Bound, Pair or Step compares: (first, last, one, other), the one to keep to the other by the sign."""
    ones = program._answers(clause.function)
    if clause.kind == "bound":
        others = [(0, program.last, clause.line())]
    elif clause.kind == "pair":
        others = [(first, last, held + clause.line()) for first, last, held in program._answers(clause.other)]
    else:
        others = [(first, last, held + clause.height) for first, last, held in ones]
        ones = program._answers_beyond(clause.function)
        places = places.inner()
    both = [(first, last, (one, other)) for first, last, one, other in side_by_side(ones, others)]
    told = side_by_side([(first, last, None) for first, last in places.stretches], both)
    return [(first, last, pair[0], pair[1]) for first, last, _, pair in told]


_BREACHES = {
    "answers": _unanswered,
    "refuses": _not_refused,
    "needs": _needed,
    "spreads": _not_spread,
    "bound": _off_line,
    "pair": _off_line,
    "step": _off_line,
}
