"""Specifications: named clauses in an order, which may be added, exchanged and dropped."""

from openranges.errors import Known, OtherShape, TooMany, Unknown
from openranges.rules import Rules, check_fits
from openranges.words import check_factor, check_name

MOST_ENTRIES = 12


class Spec:
    """Named clauses in an order, over functions and the places from 0 to last; without clauses at first."""

    def __init__(self, functions, last):
        self.rules = Rules(functions, last, [])
        self._names = ()

    def __len__(self):
        return len(self._names)

    def __getitem__(self, name):
        return self.rules.told[self._index_of(name)]

    def __setitem__(self, name, clause):
        check_name(name)
        check_fits(clause, self.rules.functions, self.rules.last)
        told = list(self.rules.told)
        if name in self._names:
            told[self._index_of(name)] = clause
            self._take(self._names, told)
        else:
            _check_count(len(told) + 1)
            self._take((*self._names, name), told + [clause])

    # Without this, Python would iterate by the indexes 0, 1, 2 and so on.
    def __iter__(self):
        raise TypeError("specifications are not iterated over")

    @property
    def names(self):
        """The names in order."""
        return self._names

    @property
    def entries(self):
        """The pairs (name, clause) in order."""
        return tuple(zip(self._names, self.rules.told))

    def drop(self, name):
        """Takes a name and its clause out."""
        at = self._index_of(name)
        self._take(self._names[:at] + self._names[at + 1:], self.rules.told[:at] + self.rules.told[at + 1:])

    def copy(self):
        """Another specification with the same entries."""
        return self._like(self._names, self.rules.told)

    def selected(self, names):
        """Another specification with the entries of some names alone, in the order that they have here."""
        wanted = [self._index_of(name) for name in names]
        chosen = [at for at in range(len(self._names)) if at in wanted]
        return self._like([self._names[at] for at in chosen], [self.rules.told[at] for at in chosen])

    def joined(self, other):
        """Another specification with these entries and then those of another one, what both have once."""
        check_same_shape(self, other)
        names = list(self._names)
        told = list(self.rules.told)
        for name, clause in other.entries:
            if name not in self._names:
                names.append(name)
                told.append(clause)
            elif clause != self[name]:
                raise Known(name)
        _check_count(len(names))
        return self._like(names, told)

    def negated(self):
        """Another specification with all clauses negated."""
        return self._like(self._names, [clause.negated() for clause in self.rules.told])

    def times(self, factor):
        """Another specification with all clauses multiplied by an integer from 1 on."""
        check_factor(factor)
        return self._like(self._names, [clause.times(factor) for clause in self.rules.told])

    def mirrored(self):
        """Another specification with all clauses mirrored in the last place."""
        return self._like(self._names, [clause.mirrored(self.rules.last) for clause in self.rules.told])

    def trial(self, action):
        """What an action returns when it is called with this specification; behind it all entries are restored."""
        rules, names = self.rules, self._names
        try:
            return action(self)
        finally:
            self.rules, self._names = rules, names

    def attempt(self, action):
        """What an action returns when it is called with this specification; if it fails, all entries are restored."""
        rules, names = self.rules, self._names
        try:
            result = action(self)
            # What the action has done stays: this is what is restored now.
            rules, names = self.rules, self._names
        finally:
            self.rules, self._names = rules, names
        return result

    def _index_of(self, name):
        # An operator runs this, and what it runs calls nothing that is held: some errors hold what is named index.
        for at, known in enumerate(self._names):
            if known == name:
                return at
        raise Unknown(name)

    def _take(self, names, told):
        """Has these entries in the place of the present ones."""
        self.rules = Rules(self.rules.functions, self.rules.last, told)
        self._names = tuple(names)

    def _like(self, names, told):
        """Another specification over the same functions and places with these entries."""
        other = Spec(self.rules.functions, self.rules.last)
        other._take(names, told)
        return other


def check_same_shape(one, other):
    """Raises OtherShape unless two specifications have the same functions, in the same order, and last place."""
    if one.rules.last != other.rules.last or one.rules.functions != other.rules.functions:
        raise OtherShape()


def _check_count(count):
    if count > MOST_ENTRIES:
        raise TooMany(count)
