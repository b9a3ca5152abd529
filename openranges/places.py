"""Finite sets of places, told by stretches."""

from openranges.errors import BadStretch, BadText, NoPlace
from openranges.integers import LAST_PLACE, is_integer, is_place, read_place
from openranges.overlaps import overlaps


class Places:
    """A finite set of places, kept as few stretches as possible, ascending."""

    def __init__(self, stretches=()):
        for index, stretch in enumerate(stretches):
            if not _is_stretch(stretch):
                raise BadStretch(index)
        self.stretches = _joined(stretches)
        self._firsts = tuple([first for first, _ in self.stretches])
        self._before = _counts_before(self.stretches)

    def __eq__(self, other):
        return isinstance(other, Places) and self.stretches == other.stretches

    def __bool__(self):
        return bool(self.stretches)

    def __contains__(self, x):
        if not is_integer(x):
            return False
        at = _how_many_upto(self._firsts, x)
        return at > 0 and x <= self.stretches[at - 1][1]

    def __getitem__(self, at):
        if not is_integer(at) or not 0 <= at < self.size():
            raise NoPlace(at)
        stretch = _how_many_upto(self._before, at) - 1
        return self._firsts[stretch] + at - self._before[stretch]

    # Without this, Python would iterate by the indexes 0, 1, 2 and so on.
    def __iter__(self):
        raise TypeError("places are not iterated over")

    def __or__(self, other):
        return Places(self.stretches + other.stretches)

    def __and__(self, other):
        return Places(_common(self.stretches, other.stretches))

    def __sub__(self, other):
        return Places(_common(self.stretches, _gaps(other.stretches)))

    def __xor__(self, other):
        return (self - other) | (other - self)

    def size(self):
        """How many places there are."""
        if not self.stretches:
            return 0
        first, last = self.stretches[-1]
        return self._before[-1] + last - first + 1

    def rank(self, x):
        """How many of the places are less than the integer x."""
        at = _how_many_upto(self._firsts, x)
        if at == 0:
            return 0
        first, last = self.stretches[at - 1]
        return self._before[at - 1] + min(x, last + 1) - first

    def least(self):
        """The least place, or None."""
        return self.stretches[0][0] if self.stretches else None

    def greatest(self):
        """The greatest place, or None."""
        return self.stretches[-1][1] if self.stretches else None

    def within(self, other):
        """Whether each of these places is one of the other ones."""
        return not bool(self - other)

    def shifted(self, by):
        """All x + by that are places."""
        return Places(_cut_to_places([(first + by, last + by) for first, last in self.stretches]))

    def mirrored(self, last):
        """All last - x that are places."""
        return Places(_cut_to_places([(last - end, last - start) for start, end in self.stretches]))

    def inner(self):
        """All x for which x and x + 1 are both among the places."""
        return Places([(first, last - 1) for first, last in self.stretches if first < last])

    def text(self):
        """The stretches in order, as `x` or `x-y`, with blanks between them; `none` without a place."""
        if not self.stretches:
            return "none"
        return " ".join([_stretch_text(first, last) for first, last in self.stretches])

    @classmethod
    def read(cls, text):
        """The places with this text."""
        if not isinstance(text, str):
            raise BadText(0)
        words = text.split(" ")
        if words[0] == "none":
            if len(words) > 1:
                raise BadText(1)
            return cls()
        return cls(read_stretches(words, 0, len(words), LAST_PLACE))


def read_stretches(words, begin, end, last):
    """The stretches that are written as the words from begin to ahead of end, with no place above last."""
    stretches = []
    for index in range(begin, end):
        stretch = _read_stretch(words[index])
        if stretch is None or stretch[1] > last or (stretches and stretch[0] < stretches[-1][1] + 2):
            raise BadText(index)
        stretches.append(stretch)
    return stretches


def _is_stretch(value):
    """Whether any value is a pair of places in order."""
    if not isinstance(value, (tuple, list)) or len(value) != 2:
        return False
    first, last = value
    return is_place(first) and is_place(last) and first <= last


def _joined(stretches):
    """The one form of stretches that may overlap or touch, in any order."""
    rows = []
    for first, last in sorted([tuple(stretch) for stretch in stretches]):
        if rows and first <= rows[-1][1] + 1:
            rows[-1] = (rows[-1][0], max(rows[-1][1], last))
        else:
            rows.append((first, last))
    return tuple(rows)


def _counts_before(stretches):
    """For each stretch of the one form, how many places are ahead of it."""
    counts = []
    total = 0
    for first, last in stretches:
        counts.append(total)
        total = total + last - first + 1
    return tuple(counts)


def _how_many_upto(numbers, x):
    """How many of the ascending numbers are at most x."""
    low = 0
    high = len(numbers)
    while low < high:
        middle = (low + high) // 2
        if numbers[middle] <= x:
            low = middle + 1
        else:
            high = middle
    return low


def _common(ones, others):
    """The stretches that two rows of stretches of the one form have in common."""
    return [(first, last) for first, last, _, _ in overlaps(ones, others)]


def _gaps(stretches):
    """The stretches of all places that are not in these stretches of the one form."""
    rows = []
    start = 0
    for first, last in stretches:
        if start < first:
            rows.append((start, first - 1))
        start = last + 1
    if start <= LAST_PLACE:
        rows.append((start, LAST_PLACE))
    return rows


def _cut_to_places(pairs):
    """The parts of pairs of integers in order that consist of places."""
    return [(max(first, 0), min(last, LAST_PLACE)) for first, last in pairs if last >= 0 and first <= LAST_PLACE]


def _stretch_text(first, last):
    """The word for one stretch."""
    return str(first) if first == last else f"{first}-{last}"


def _read_stretch(word):
    """The stretch that is written as this word, or None."""
    start, dash, end = word.partition("-")
    first = read_place(start)
    if first is None:
        return None
    if not dash:
        return (first, first)
    last = read_place(end)
    if last is None or first >= last:
        return None
    return (first, last)
