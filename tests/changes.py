"""Changes by one thing to rows, hops and parts, for tests that want them to be seen."""

from tests.values import any_values


def changed(chance, value, words=("f", "g", "h", "x")):
    """A value that is nested, with one thing in it changed."""
    if isinstance(value, (tuple, list)) and value and chance.random() < 0.9:
        return _within(chance, value, words)
    if isinstance(value, int) and chance.random() < 0.85:
        return value + chance.choice((-1, 1, -1, 1, -2, 2, 7))
    if isinstance(value, str) and chance.random() < 0.7:
        return chance.choice(words + ("up", "down", "asked", "answers", "needs", "bar", "ring", "sum", "sums", "grown"))
    return chance.choice(any_values())


def _within(chance, value, words):
    items = list(value)
    at = chance.randrange(len(items))
    way = chance.random()
    if way < 0.6:
        items[at] = changed(chance, items[at], words)
    elif way < 0.7:
        del items[at]
    elif way < 0.76:
        items.insert(at, items[at])
    elif way < 0.84:
        other = chance.randrange(len(items))
        items[at], items[other] = items[other], items[at]
    elif way < 0.9:
        items.insert(at, chance.choice(any_values()))
    else:
        return items if isinstance(value, tuple) else tuple(items)
    return tuple(items) if isinstance(value, tuple) else items


def as_lists(value):
    """The value with lists in the place of all tuples."""
    return [as_lists(item) for item in value] if isinstance(value, (tuple, list)) else value
