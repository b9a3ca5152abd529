"""Point 12: programs as they are made and refused, their calls, pieces and equality."""

import unittest

from openranges.errors import BadPieces, BadWord, NoFunction, NoPlace
from openranges.lines import Line
from openranges.places import Places
from openranges.programs import Program
from tests.plain import chance_of, members, outcomes_of, program_of, some_outcomes
from tests.values import FAR, any_values

FLAT = Line(0, 2)
RISING = Line(3, -1)


def shown(program, function):
    return [(first, last, None if line is None else line.text()) for first, last, line in program.pieces(function)]


class MadeAndRefused(unittest.TestCase):
    def refused(self, error, fields, last, told):
        with self.assertRaises(error) as caught:
            Program(last, told)
        self.assertIs(type(caught.exception), error)
        self.assertEqual(tuple(getattr(caught.exception, name) for name in vars(caught.exception)), fields)

    def test_lists_and_tuples(self):
        rows = [(0, 3, FLAT), (4, 9, None)]
        wanted = Program(9, {"f": rows})
        for pieces in (tuple(rows), [list(row) for row in rows], tuple(list(row) for row in rows), [rows[0], list(rows[1])]):
            self.assertTrue(Program(9, {"f": pieces}) == wanted)

    def test_attributes(self):
        program = Program(9, {"h": [(0, 9, FLAT)], "f": [(0, 9, None)], "g": [(0, 9, RISING)]})
        self.assertEqual((program.last, program.functions), (9, ("f", "g", "h")))
        self.assertIs(type(program.functions), tuple)
        self.assertEqual(Program(0, {"z": [(0, 0, None)]}).functions, ("z",))
        self.assertEqual(Program(FAR, {"z": [(0, FAR, None)]}).last, FAR)

    def test_keys_that_are_no_words(self):
        rows = [(0, 9, FLAT)]
        for word in ("", "F", "f1", "abcdefghi", "a b", "\u00e9", None, 0, 7, True, -1):
            self.refused(BadWord, (word,), 9, {word: rows})
            self.refused(BadWord, (word,), 9, {"f": [], word: [5]})
            self.refused(BadWord, (word,), 9, {word: [5], "f": []})
        self.refused(BadWord, ("B",), 9, {"f": rows, "C": rows, "B": rows})
        self.refused(BadWord, ("1",), 9, {"C": rows, "1": rows})
        self.refused(BadWord, (1,), 9, {5: rows, 1: rows, "f": rows})

    def test_wrong_pieces(self):
        good = [(0, 3, FLAT), (4, 4, None), (5, 9, RISING)]
        for at in range(3):
            first, last, line = good[at]
            bad = [(first + 1, last, line), (first - 1, last, line), (first, first - 1, line), (first, 10, line)]
            bad += [(first, last), (first, last, line, line), (first, last, 5), (first, last, True), (first, last, "x")]
            bad += [(first, last, Places()), (first, last, (1, 2)), (first, None, line), (None, last, line)]
            bad += [(True, last, line), (first, True, line), (str(first), last, line), (first, FAR + 1, line)]
            bad += [(-1, last, line), (first, -1, line), ([first], last, line), any]
            for row in bad + any_values():
                self.refused(BadPieces, ("f", at), 9, {"f": good[:at] + [row] + good[at + 1:]})
                self.refused(BadPieces, ("f", at), 9, {"g": [], "f": good[:at] + [row, 7, 8]})

    def test_true_and_false_are_no_places(self):
        for row in ((True, 9, FLAT), (1, True, FLAT), (True, True, None)):
            self.refused(BadPieces, ("f", 1), 9, {"f": [(0, 0, None), row, (2, 9, None)]})
        self.refused(BadPieces, ("f", 0), 9, {"f": [(False, 9, FLAT)]})
        self.refused(BadPieces, ("f", 0), 0, {"f": [(0, False, FLAT)]})

    def test_pieces_that_end_too_early(self):
        good = [(0, 3, FLAT), (4, 4, None), (5, 9, RISING)]
        for many in range(3):
            self.refused(BadPieces, ("f", many), 9, {"f": good[:many]})
        self.refused(BadPieces, ("f", 3), 10, {"f": good})
        self.refused(BadPieces, ("f", 1), FAR, {"f": [(0, FAR - 1, FLAT)]})

    def test_one_piece_too_many(self):
        good = [(0, 3, FLAT), (4, 9, None)]
        for row in ((10, 10, None), (10, 12, FLAT), (9, 9, None), (0, 9, None)):
            self.refused(BadPieces, ("f", 2), 9, {"f": good + [row]})
        self.refused(BadPieces, ("f", 1), FAR, {"f": [(0, FAR, None), (FAR + 1, FAR + 1, None)]})

    def test_the_first_function_and_its_first_piece(self):
        good = [(0, 9, FLAT)]
        self.refused(BadPieces, ("f", 0), 9, {"g": [7], "f": [8]})
        self.refused(BadPieces, ("g", 1), 9, {"h": [], "g": [(0, 3, None), (5, 5, None), 7], "f": good})
        self.refused(BadPieces, ("h", 0), 9, {"h": [], "g": good, "f": good})

    def test_what_is_passed_stays_and_may_be_changed_later(self):
        rows = [[0, 3, FLAT], [4, 9, None]]
        given = {"g": rows, "f": [(0, 9, RISING)]}
        program = Program(9, given)
        self.assertEqual(rows, [[0, 3, FLAT], [4, 9, None]])
        self.assertEqual(list(given), ["g", "f"])
        rows[0][1] = 7
        rows.append(5)
        given["h"] = []
        self.assertEqual(shown(program, "g"), [(0, 3, "2"), (4, 9, None)])
        self.assertEqual(program.functions, ("f", "g"))
        program.pieces("g").clear()
        self.assertEqual(shown(program, "g"), [(0, 3, "2"), (4, 9, None)])


class Calls(unittest.TestCase):
    def test_small_programs_place_by_place(self):
        chance = chance_of(11)
        for _ in range(300):
            outcomes = some_outcomes(chance, ("f", "g"), chance.randint(0, 12))
            self.assertEqual(outcomes_of(program_of(outcomes)), outcomes)

    def test_ends_of_pieces_in_large_programs(self):
        for at in (5, 10 ** 9, FAR // 3, FAR - 3):
            program = Program(FAR, {"f": [(0, at, Line(1, 1)), (at + 1, at + 1, None), (at + 2, FAR, Line(-2, 7))]})
            wanted = {0: 1, at - 1: at, at: at + 1, at + 1: None, at + 2: 3 - 2 * at, FAR: 7 - 2 * FAR}
            self.assertEqual({x: program("f", x) for x in wanted}, wanted)

    def test_many_pieces(self):
        rows = [(10 * k, 10 * k + 9, Line(k, 0) if k % 3 else None) for k in range(100)]
        program = Program(999, {"f": rows})
        self.assertEqual([program("f", x) for x in range(1000)], [x * (x // 10) if x // 10 % 3 else None for x in range(1000)])

    def test_errors_of_calls(self):
        program = Program(9, {"f": [(0, 9, FLAT)], "g": [(0, 9, None)]})
        for function in ("h", "F", "", None, 0, 1, True, -1):
            for x in (0, 10, None):
                with self.assertRaises(NoFunction) as caught:
                    program(function, x)
                self.assertIs(caught.exception.function, function)
            for action in (program.pieces, program.answered):
                with self.assertRaises(NoFunction) as caught:
                    action(function)
                self.assertIs(caught.exception.function, function)
        for x in (-1, 10, FAR, FAR + 1, None, True, False, "3", ""):
            for function in ("f", "g"):
                with self.assertRaises(NoPlace) as caught:
                    program(function, x)
                self.assertIs(caught.exception.place, x)


class Pieces(unittest.TestCase):
    def one_form(self, row):
        """The pieces of a row of outcomes, found place by place."""
        pieces = []
        x = 0
        while x < len(row):
            end = x
            if row[x] is None:
                while end + 1 < len(row) and row[end + 1] is None:
                    end += 1
                pieces.append((x, end, None))
            else:
                slope = 0
                if x + 1 < len(row) and row[x + 1] is not None:
                    slope = row[x + 1] - row[x]
                    while end + 1 < len(row) and row[end + 1] == row[x] + slope * (end + 1 - x):
                        end += 1
                pieces.append((x, end, Line(slope, row[x] - slope * x).text()))
            x = end + 1
        return pieces

    def cut(self, chance, row):
        """The same outcomes, told by pieces cut anywhere, those of one place with any line."""
        pieces = []
        for first, last, line in program_of({"f": row}).pieces("f"):
            start = first
            while start <= last:
                end = chance.randint(start, last)
                held = line
                if line is not None and start == end:
                    slope = chance.randint(-5, 5)
                    held = Line(slope, line(start) - slope * start)
                pieces.append((start, end, held))
                start = end + 1
        return pieces

    def test_the_example_of_the_document(self):
        program = Program(5, {"f": [(0, 1, Line(1, 0)), (2, 5, Line(2, -2))]})
        self.assertEqual(program.pieces("f") == [(0, 2, Line(1, 0)), (3, 5, Line(2, -2))], True)

    def test_the_one_form(self):
        chance = chance_of(12)
        for _ in range(1500):
            row = some_outcomes(chance, ("f",), chance.randint(0, 12), refused=chance.choice((0, 0.3)))["f"]
            wanted = self.one_form(row)
            one = program_of({"f": row})
            self.assertEqual(shown(one, "f"), wanted)
            for _ in range(3):
                other = Program(len(row) - 1, {"f": self.cut(chance, row)})
                self.assertEqual(shown(other, "f"), wanted)
                self.assertIs(one == other, True)

    def test_seams_moved_by_a_place_where_both_lines_agree(self):
        for at in (4, 10 ** 9, FAR // 7):
            lines = (Line(1, 0), Line(3, -2 * at))
            rows = [[(0, at + by, lines[0]), (at + by + 1, FAR, lines[1])] for by in (0, -1)]
            one, other = [Program(FAR, {"f": row}) for row in rows]
            self.assertTrue(one == other)
            self.assertEqual(shown(one, "f"), [(0, at, "x"), (at + 1, FAR, f"3 x - {2 * at}")])
            self.assertEqual(shown(other, "f"), shown(one, "f"))
            self.assertFalse(one == Program(FAR, {"f": [(0, at - 2, lines[0]), (at - 1, FAR, lines[1])]}))

    def test_pieces_are_tuples_in_a_new_list(self):
        program = Program(9, {"f": [[0, 3, FLAT], [4, 9, None]]})
        pieces = program.pieces("f")
        self.assertIs(type(pieces), list)
        self.assertEqual([type(piece) for piece in pieces], [tuple, tuple])
        self.assertIsNot(program.pieces("f"), pieces)

    def test_one_outcome_changed(self):
        chance = chance_of(13)
        for _ in range(400):
            outcomes = some_outcomes(chance, ("f", "g"), 8)
            one = program_of(outcomes)
            other = {word: list(row) for word, row in outcomes.items()}
            word, x = chance.choice(("f", "g")), chance.randint(0, 8)
            other[word][x] = chance.choice([value for value in (None, 0, 1, 5) if value != outcomes[word][x]])
            self.assertIs(one == program_of(other), False)
            self.assertIs(one != program_of(other), True)

    def test_other_shapes_and_values(self):
        rows = [(0, 9, None)]
        one = Program(9, {"f": rows, "g": rows})
        for other in (Program(9, {"f": rows}), Program(9, {"f": rows, "h": rows}), Program(8, {"f": [(0, 8, None)], "g": [(0, 8, None)]})):
            self.assertIs(one == other, False)
        for value in any_values() + [{"f": rows, "g": rows}, rows]:
            self.assertIs(one == value, False)
            self.assertIs(value == one, False)
        self.assertIs(one == Program(9, {"g": rows, "f": rows}), True)

    def test_answered(self):
        chance = chance_of(14)
        for _ in range(300):
            outcomes = some_outcomes(chance, ("f", "g"), 12)
            program = program_of(outcomes)
            for word in ("f", "g"):
                answered = [x for x in range(13) if outcomes[word][x] is not None]
                self.assertEqual(members(program.answered(word)), answered)
        wide = Program(FAR, {"f": [(0, 4, FLAT), (5, 6, None), (7, FAR, RISING)]})
        self.assertEqual(wide.answered("f").text(), f"0-4 7-{FAR}")

    def test_listed_methods_are_defined_in_the_class(self):
        listed = "__call__ __eq__ __and__ __or__ pieces answered breaches breach keeps changed negated times mirrored"
        self.assertEqual([name for name in listed.split() if name not in vars(Program)], [])


if __name__ == "__main__":
    unittest.main()
