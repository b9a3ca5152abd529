"""Point 24: texts of specifications, read back, and the first wrong line and word of all others."""

import unittest

from openranges.clauses import Answers, Needs
from openranges.errors import BadLine
from openranges.places import Places
from openranges.specs import Spec
from openranges.texts import read_spec, write_spec
from tests.grammar import first_wrong_of_spec
from tests.plain import chance_of, some_clause
from tests.test_specs import NAMES, NO_NAMES, Checks, filled, some_spec
from tests.test_texts import SPOILT, spoilt
from tests.values import BIG, FAR

TEXT = "functions f g\nlast 20\na answers f 0-3 7\nb2 pair g 0-9 <= f - 2 x + 3\nlast step f 4-20 >= -4"


def wrong_line(text):
    """The row and the index that are told for a text, or None if it is read."""
    try:
        spec = read_spec(text)
    except BadLine as error:
        assert type(error) is BadLine
        return (error.row, error.index)
    assert write_spec(spec) == text
    return None


class Written(Checks):
    def test_one_written_out(self):
        spec = read_spec(TEXT)
        self.assertEqual(write_spec(spec), TEXT)
        self.assertEqual(spec.names, ("a", "b2", "last"))
        self.assertTrue(spec["a"] == Answers("f", Places([(0, 3), (7, 7)])))

    def test_there_and_back(self):
        chance = chance_of(271)
        for _ in range(400):
            functions = chance.choice((("f",), ("g", "f"), ("abcdefgh", "none", "x")))
            last = chance.choice((0, 9, FAR))
            names = [chance.choice("abcz") + chance.choice("09az") + str(chance.randint(0, 99999)) for _ in range(chance.randint(0, 12))]
            entries = {name: some_clause(chance, functions, last, most=chance.choice((3, BIG))) for name in names}
            spec = filled(entries.items(), functions, last)
            text = write_spec(spec)
            self.assertFalse(text.endswith("\n"))
            self.assertEqual(len(text.split("\n")), 2 + len(spec))
            self.is_like(read_spec(text), spec.entries, functions, last)

    def test_no_entries(self):
        for functions, last, text in ((["f"], 0, "functions f\nlast 0"), (["h", "f", "g"], FAR, f"functions h f g\nlast {FAR}")):
            self.assertEqual(write_spec(Spec(functions, last)), text)
            self.is_like(read_spec(text), [], tuple(functions), last)

    def test_the_specification_stays(self):
        spec = filled([("a", Needs("f", Places([(0, 9)]), "g"))])
        read_spec(write_spec(spec)).drop("a")
        self.is_like(spec, [("a", Needs("f", Places([(0, 9)]), "g"))])


class Wrong(unittest.TestCase):
    def wrong(self, row, index, *lines):
        text = "\n".join(lines)
        self.assertEqual(wrong_line(text), (row, index), text)
        self.assertEqual(first_wrong_of_spec(text), (row, index), text)

    def test_functions(self):
        for line, index in (("", 0), (" functions f", 0), ("function f", 0), ("Functions f", 0), ("f g", 0), ("functions", 1), ("functions ", 1),
                            ("functions  f", 1), ("functions F", 1), ("functions f1", 1), ("functions abcdefghi", 1), ("functions f f", 2),
                            ("functions f g f", 3), ("functions f g h k", 4), ("functions f g h ", 4), ("functions f ", 2), ("functions f g h f", 4),
                            ("functions f g G", 3), ("functions \u00e9", 1), ("functions f\t", 1)):
            self.wrong(0, index, line)
            self.wrong(0, index, line, "last 9")
            self.wrong(0, index, line, "nothing", "right")

    def test_last_places(self):
        self.wrong(1, 0, "functions f")
        for line, index in (("", 0), ("Last 9", 0), ("9", 0), ("last", 1), ("last ", 1), ("last 09", 1), ("last -1", 1), ("last +9", 1), ("last x", 1),
                            (f"last {FAR + 1}", 1), ("last 9 9", 2), ("last 9 ", 2), ("last 0-9", 1), (" last 9", 0), ("last  9", 1), ("last 9.0", 1)):
            self.wrong(1, index, "functions f", line)
            self.wrong(1, index, "functions f", line, "a answers f 0")

    def test_names(self):
        for name in NAMES:
            self.assertIsNone(wrong_line(f"functions f\nlast 9\n{name} answers f 0"))
        for name in NO_NAMES:
            if isinstance(name, str) and " " not in name and "\n" not in name:
                self.wrong(2, 0, "functions f", "last 9", f"{name} answers f 0")
        self.wrong(2, 0, "functions f", "last 9", " a answers f 0")
        self.wrong(2, 1, "functions f", "last 9", "a  answers f 0")
        self.wrong(3, 0, "functions f", "last 9", "a answers f 0", "a answers f 0")
        self.wrong(4, 0, "functions f", "last 9", "a answers f 0", "b answers f 0", "a refuses g 99")
        self.wrong(2, 0, "functions f", "last 9", "1 answers h 0")

    def test_functions_that_are_not_there(self):
        heads = ("functions f g", "last 9")
        for line, index in (("a answers h 0", 2), ("a pair h 0 <= k", 2), ("a pair f 0 <= k", 5), ("a pair f 10 <= k", 3), ("a needs f 0 k", 4),
                            ("a needs h 0 k", 2), ("a needs h", 2), ("a needs F 0 g", 2), ("a needs f 0 f", 4), ("a pair f 0 <= f", 5),
                            ("a pair f 0 < k", 4), ("a needs k 10 h", 2)):
            self.wrong(2, index, *heads, line)
        # There is no other function at all.
        for line, index in (("a needs f 0 g", 4), ("a needs f 0 f", 4), ("a needs f 0", 4), ("a needs f 12 g", 3), ("a pair f 0 = g + 3", 5),
                            ("a pair f 0 =", 5), ("a pair f 0 = f", 5), ("a needs g 0 f", 2)):
            self.wrong(2, index, "functions f", "last 9", line)

    def test_places_above_last(self):
        for line, index in (("a answers f 10", 3), ("a answers f 9 11", 4), ("a answers f 0-10", 3), ("a answers f 0-3 5-12 20", 4), ("a refuses f 0 2 20", 5),
                            ("a bound f 0-3 10 < 3", 4), ("a bound f 3-0 10 < 3", 3), (f"a step f {FAR} = 3", 3), ("a step f 0-3 10", 4)):
            self.wrong(2, index, "functions f g", "last 9", line)
        self.assertIsNone(wrong_line("functions f g\nlast 9\na answers f 0-3 5-9"))
        self.assertIsNone(wrong_line(f"functions f g\nlast {FAR}\na answers f 0-{FAR}"))

    def test_lines_that_end_too_early(self):
        for line, index in (("a", 1), ("a answers", 2), ("a answers f", 3), ("a needs f 0-3 5", 5), ("a bound f 0 <=", 5), ("a bound f 0 <= 2 x -", 8),
                            ("a pair f 0 <= g +", 7), ("a step f 0 =", 5), ("a spreads f none", 4)):
            self.wrong(2, index, "functions f g", "last 9", line)
            self.wrong(3, index, "functions f g", "last 9", "b answers f 0", line, "b wrong")

    def test_empty_lines_and_a_line_feed_at_the_end(self):
        self.wrong(0, 0, "", "functions f", "last 9")
        self.wrong(1, 0, "functions f", "", "last 9")
        self.wrong(1, 0, "functions f", "")
        self.wrong(2, 0, "functions f", "last 9", "")
        self.wrong(2, 0, "functions f", "last 9", "", "a answers f 0")
        self.wrong(3, 0, "functions f", "last 9", "a answers f 0", "")
        self.wrong(2, 3, "functions f", "last 9", "a answers f 0\r")
        self.wrong(0, 1, "functions f\r", "last 9\r")

    def test_a_thirteenth_clause(self):
        lines = ["functions f", "last 9", *[f"a{at} answers f 0" for at in range(12)]]
        self.assertIsNone(wrong_line("\n".join(lines)))
        for line in ("b answers f 0", "b", "a0 answers f 0", "B", ""):
            self.wrong(14, 0, *lines, line)
        self.wrong(13, 2, *lines[:13], "b answers h 0", "b answers f 0")

    def test_one_thing_changed(self):
        chance = chance_of(272)
        found = {}
        for _ in range(12000):
            functions = chance.choice((("f",), ("f", "g"), ("f", "g", "h")))
            rows = write_spec(some_spec(chance, functions, 20, 4)).split("\n")
            at = chance.randrange(len(rows))
            way = chance.randrange(8)
            if way < 6:
                rows[at] = " ".join(spoilt(chance, rows[at].split(" ")))
            elif way == 6:
                rows.insert(at, chance.choice(rows))
            else:
                del rows[at]
            text = "\n".join(rows)
            told = wrong_line(text)
            self.assertEqual(told, first_wrong_of_spec(text), text)
            key = "read" if told is None else (min(told[0], 3), min(told[1], 5))
            found[key] = found.get(key, 0) + 1
        for key in ("read", (0, 0), (0, 1), (1, 0), (1, 1), (1, 2), (2, 0), (2, 1), (2, 2), (2, 3), (2, 4), (2, 5), (3, 0), (3, 3)):
            self.assertGreater(found.get(key, 0), 20, key)

    def test_each_word(self):
        rows = TEXT.split("\n")
        for row in range(len(rows)):
            words = rows[row].split(" ")
            for at in range(len(words) + 1):
                for word in SPOILT:
                    for changed in (words[:at] + [word] + words[at:], words[:at] + [word] + words[at + 1:]):
                        text = "\n".join(rows[:row] + [" ".join(changed)] + rows[row + 1:])
                        self.assertEqual(wrong_line(text), first_wrong_of_spec(text), text)


if __name__ == "__main__":
    unittest.main()
