"""Point 18: which pieces are a table, held against a reading place by place."""

import unittest

from openranges.clauses import Answers, Bound, Refuses
from openranges.lines import Line
from openranges.places import Places
from openranges.ranges import is_table, table
from openranges.rules import Rules
from tests.changes import as_lists
from tests.plain import chance_of
from tests.test_ranges import RULES, possible_worlds
from tests.values import FAR, any_values

NAMES = ("answers", "open", "refuses")


def is_number(value):
    return type(value) is int


def right_piece(piece, world, f):
    """Whether a piece with two places in order is right at each of its places."""
    first, last, name, low, high = piece
    if not isinstance(name, str) or not all(line is None or isinstance(line, Line) for line in (low, high)):
        return False
    for x in range(first, last + 1):
        ends = world.range_at((f, x))
        told = tuple([None if line is None else line(x) for line in (low, high)])
        if name != world.status((f, x)) or told != ((None, None) if ends is None else ends):
            return False
    return True


def right_table(pieces, world, f):
    """Whether any value is a table, by point 18."""
    if not isinstance(pieces, (tuple, list)):
        return False
    start = 0
    for piece in pieces:
        if not isinstance(piece, (tuple, list)) or len(piece) != 5 or not is_number(piece[0]) or not is_number(piece[1]):
            return False
        if piece[0] != start or not piece[0] <= piece[1] <= world.rules.last or not right_piece(piece, world, f):
            return False
        start = piece[1] + 1
    return start == world.rules.last + 1


def another_line(chance, line, place):
    """A line that is the same at one place, or None."""
    if line is None:
        return None
    slope = chance.randint(-3, 3)
    return Line(slope, line(place) - slope * place)


def cut(chance, pieces):
    """The same pieces, some of them cut, with other lines at single places."""
    rows = []
    for first, last, name, low, high in pieces:
        while chance.random() < 0.6 and first < last:
            middle = chance.randint(first, last - 1)
            rows.append((first, middle, name, low, high))
            first = middle + 1
        rows.append((first, last, name, low, high))
    told = []
    for first, last, name, low, high in rows:
        if first == last:
            low, high = another_line(chance, low, first), another_line(chance, high, first)
        told.append((first, last, name, low, high))
    return told


def changed_line(chance, line):
    if line is None:
        return Line(0, chance.randint(-2, 2))
    return chance.choice((None, line + 1, line - 1, line + Line(1, 0), line - Line(1, -1), -line))


def changed(chance, pieces):
    """Pieces with one thing changed, or left as it is."""
    rows = [list(piece) for piece in pieces]
    at = chance.randrange(len(rows))
    way = chance.randrange(10)
    if way == 0:
        rows[at][2] = chance.choice(NAMES)
    elif way <= 2:
        rows[at][2 + way] = changed_line(chance, rows[at][2 + way])
    elif way <= 4:
        rows[at][way - 3] += chance.choice((-1, 1))
        if way == 4 and at + 1 < len(rows):
            # The next piece begins straight behind this one in spite of it.
            rows[at + 1][0] = rows[at][1] + chance.choice((0, 1, 1, 1))
    elif way == 5:
        del rows[at]
    elif way == 6:
        rows.insert(at, rows[at])
    elif way == 7:
        other = chance.randrange(len(rows))
        rows[at], rows[other] = rows[other], rows[at]
    elif way == 8:
        rows[at][chance.randrange(5)] = chance.choice(any_values())
    else:
        rows[at][3], rows[at][4] = rows[at][4], rows[at][3]
    return chance.choice((tuple, list))([chance.choice((tuple, list))(row) for row in rows])


class IsTable(unittest.TestCase):
    def test_right_tables_cut_anywhere(self):
        for chance, rules, world in possible_worlds(201, 250):
            f = chance.choice(rules.functions)
            pieces = cut(chance, table(rules, f))
            self.assertTrue(right_table(pieces, world, f))
            self.assertIs(is_table(rules, f, pieces), True, (rules.told, pieces))
            self.assertIs(is_table(rules, f, as_lists(pieces)), True)
            self.assertIs(is_table(rules, f, tuple(pieces)), True)

    def test_one_thing_changed(self):
        found = {True: 0, False: 0}
        for chance, rules, world in possible_worlds(202, 300):
            f = chance.choice(rules.functions)
            for _ in range(8):
                pieces = changed(chance, cut(chance, table(rules, f)))
                wanted = right_table(pieces, world, f)
                self.assertIs(is_table(rules, f, pieces), wanted, (rules.told, pieces))
                found[wanted] += 1
        self.assertGreater(min(found.values()), 100, found)

    def test_any_values(self):
        for value in any_values():
            for rules in (RULES, Rules(["f"], 0, [])):
                self.assertIs(is_table(rules, "f", value), False)
            for at in range(5):
                for piece in ((0, 9, "answers", Line(1, 0), Line(2, 5)), (0, 9, "refuses", None, None)):
                    row = list(piece)
                    row[at] = value
                    same = type(value) is type(piece[at]) and value == piece[at]
                    self.assertIs(is_table(RULES, "f", [row]), same and piece[2] == "answers", value)
                self.assertIs(is_table(RULES, "f", [row, value]), False)
            self.assertIs(is_table(RULES, "f", [value]), False)

    def test_bools_are_no_places(self):
        rules = Rules(["f"], 1, [])
        self.assertIs(is_table(rules, "f", [(0, 1, "open", None, None)]), True)
        self.assertIs(is_table(rules, "f", [(0, 0, "open", None, None), (1, 1, "open", None, None)]), True)
        for first, last in ((False, 1), (0, True), (False, True)):
            self.assertIs(is_table(rules, "f", [(first, last, "open", None, None)]), False)
        self.assertIs(is_table(rules, "f", [(0, 0, "open", None, None), (True, 1, "open", None, None)]), False)

    def test_parts_of_a_piece(self):
        rules = Rules(["f"], 5, [Refuses("f", Places([(0, 5)]))])
        self.assertIs(is_table(rules, "f", [(0, 5, "refuses", None, None)]), True)
        for pieces in ([(0, 5, "refuses", None)], [(0, 5, "refuses", None, None, None)], [(0, 5, "refuses")], [], [()],
                       [(0, 5, "refuses", Line(0, 0), None)], [(0, 5, "refuses", None, Line(0, 0))], [(0, 5, None, None, None)],
                       [(0, 4, "refuses", None, None)], [(0, 6, "refuses", None, None)], [(1, 5, "refuses", None, None)],
                       [(0, 2, "refuses", None, None), (2, 5, "refuses", None, None)], [(0, 5, "Refuses", None, None)],
                       [(0, 2, "refuses", None, None), (4, 5, "refuses", None, None)], [(0, -1, "open", None, None)],
                       [(0, 5, "refuses", None, None), (6, 5, "refuses", None, None)], {0: (0, 5, "refuses", None, None)}):
            self.assertIs(is_table(rules, "f", pieces), False, pieces)

    def test_an_end_moved_by_one_far_off(self):
        every = Places([(0, FAR)])
        at = FAR // 3
        told = [Answers("f", Places([(0, at)])), Bound("f", every, "<=", 2, 1), Bound("f", every, "<=", 1, at)]
        rules = Rules(["f"], FAR, told)
        turn = at - 1

        def pieces_for(turn, end):
            return [(0, turn, "answers", None, Line(2, 1)), (turn + 1, end, "answers", None, Line(1, at)),
                    (end + 1, FAR, "open", None, Line(1, at))]

        self.assertIs(is_table(rules, "f", pieces_for(turn, at)), True)
        # Both lines have one value at this place.
        self.assertIs(is_table(rules, "f", pieces_for(turn - 1, at)), True)
        for moved, end in ((turn - 2, at), (turn + 1, at + 1), (turn, at + 1), (turn, at - 1)):
            if moved + 1 <= end:
                self.assertIs(is_table(rules, "f", pieces_for(moved, end)), False, (moved - at, end - at))


if __name__ == "__main__":
    unittest.main()
