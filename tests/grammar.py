"""What point 24 says of texts, told by states: each word leads from some states to the next ones, or is wrong."""

import re

FAR = 10 ** 30
NUMBER = re.compile(r"(0|-?[1-9][0-9]*)\Z", re.ASCII)
ABOVE_NOUGHT = re.compile(r"[1-9][0-9]*\Z", re.ASCII)
STRETCH = re.compile(r"(0|[1-9][0-9]*)(-(0|[1-9][0-9]*))?\Z", re.ASCII)
WORD = re.compile(r"[a-z]{1,8}\Z", re.ASCII)
NAME = re.compile(r"[a-z][a-z0-9]{0,7}\Z", re.ASCII)
KINDS = ("answers", "refuses", "needs", "spreads", "bound", "pair", "step")
END = ("end",)


class Grammar:
    """The texts of clauses over some functions (None for any words) and places up to a last one."""

    def __init__(self, functions=None, last=FAR):
        self.functions = functions
        self.last = last

    def first_wrong(self, words):
        """The index of the first wrong word, the number of words if more are needed, or None."""
        states = [("kind",)]
        for index, word in enumerate(words):
            states = [other for state in states for other in self.following(state, word)]
            if not states:
                return index
        return None if END in states else len(words)

    def is_function(self, word):
        return bool(WORD.match(word)) and (self.functions is None or word in self.functions)

    def following(self, state, word):
        """The states to which a word leads, END among them where the text may end."""
        name, *told = state
        return getattr(self, "from_" + name)(word, *told)

    def from_end(self, word):
        return []

    def from_kind(self, word):
        return [("function", word)] if word in KINDS else []

    def from_function(self, word, kind):
        return [("places", kind, word, None)] if self.is_function(word) else []

    def from_places(self, word, kind, function, before):
        if before is None and word == "none":
            return self.behind_places(kind, function)
        found = STRETCH.match(word)
        if not found:
            return []
        first = int(found.group(1))
        last = int(found.group(3)) if found.group(2) else first
        if (found.group(2) and first >= last) or last > self.last or (before is not None and first < before + 2):
            return []
        return [("places", kind, function, last), *self.behind_places(kind, function)]

    def behind_places(self, kind, function):
        if kind in ("answers", "refuses"):
            return [END]
        if kind == "needs":
            return [("other", function, END)]
        return [("way",)] if kind == "spreads" else [("sign", kind, function)]

    def from_other(self, word, function, *behind):
        return list(behind) if self.is_function(word) and word != function else []

    def from_way(self, word):
        return [END] if word in ("up", "down") else []

    def from_sign(self, word, kind, function):
        if word not in ("<=", ">=", "="):
            return []
        return [{"bound": ("line",), "pair": ("other", function, END, ("added",)), "step": ("number",)}[kind]]

    def from_number(self, word):
        return [END] if NUMBER.match(word) else []

    def from_line(self, word):
        if word in ("x", "-x"):
            return [END, ("height",)]
        if not NUMBER.match(word):
            return []
        return [END] if word in ("0", "1", "-1") else [END, ("x",)]

    def from_added(self, word):
        return [("term",)] if word in ("+", "-") else []

    def from_term(self, word):
        if word == "x":
            return [END, ("height",)]
        if not ABOVE_NOUGHT.match(word):
            return []
        return [END] if word == "1" else [END, ("x",)]

    def from_x(self, word):
        return [END, ("height",)] if word == "x" else []

    def from_height(self, word):
        return [("above",)] if word in ("+", "-") else []

    def from_above(self, word):
        return [END] if ABOVE_NOUGHT.match(word) else []


def first_wrong_of_spec(text):
    """The (row, index) of the first wrong word of a text of a specification, or None."""
    rows = [line.split(" ") for line in text.split("\n")]
    found = _wrong_functions(rows[0])
    if found is not None:
        return (0, found)
    if len(rows) == 1:
        return (1, 0)
    found = _wrong_last(rows[1])
    if found is not None:
        return (1, found)
    functions, last = rows[0][1:], int(rows[1][1])
    names = []
    for row, words in enumerate(rows[2:], 2):
        if not NAME.match(words[0]) or words[0] in names or len(names) == 12:
            return (row, 0)
        names.append(words[0])
        found = Grammar(functions, last).first_wrong(words[1:])
        if found is not None:
            return (row, found + 1)
    return None


def _wrong_functions(words):
    if words[0] != "functions":
        return 0
    for index, word in list(enumerate(words))[1:]:
        if index == 4 or not WORD.match(word) or word in words[1:index]:
            return index
    return 1 if len(words) == 1 else None


def _wrong_last(words):
    if words[0] != "last":
        return 0
    if len(words) == 1 or not re.match(r"(0|[1-9][0-9]*)\Z", words[1], re.ASCII) or int(words[1]) > FAR:
        return 1
    return 2 if len(words) > 2 else None
