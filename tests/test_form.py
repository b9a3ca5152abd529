"""The form of the code that LANGUAGE.md asks for, as far as it is quickly seen."""

import ast
import pathlib
import unittest

from tests.form import Found, Run, defined_in, imports_of, own_names

PACKAGE = pathlib.Path(__file__).resolve().parent.parent / "openranges"
# A class with an operator, whose row 6 is to be filled in, and a function that calls in row 14 what may be held.
CLASS = """class Box:
    def __init__(self, rows):
        self._rows = rows

    def __getitem__(self, at):
        PASS

    def _index_of(self, at):
        return [place for place, row in enumerate(self._rows) if row == at][0]


def _place_of(box, at):
    # The name is that of an attribute, too.
    return box._rows.index(at)
"""


class Form(unittest.TestCase):
    def setUp(self):
        self.files = sorted(path for path in PACKAGE.iterdir() if path.name != "__pycache__")
        self.texts = {path.stem: path.read_text(encoding="utf-8") for path in self.files}

    def test_the_folder_has_plain_files_alone(self):
        for path in self.files:
            self.assertRegex(path.name, r"^[a-z0-9_]+\.py$")

    def test_characters_and_sizes(self):
        for name, text in self.texts.items():
            self.assertEqual([sign for sign in text if sign != "\n" and not " " <= sign <= "~"], [], name)
            lines = text.split("\n")
            self.assertLessEqual(len(lines), 399, name)
            self.assertLessEqual(max(len(line) for line in lines), 120, name)

    def test_what_is_barred(self):
        methods, attributes = own_names(self.texts.values())
        self.assertEqual(methods & attributes, set())
        for name, text in self.texts.items():
            self.assertEqual(Found(text, methods, attributes).all(), [], name)

    def test_what_operators_run_calls_nothing_that_is_held(self):
        run = Run(self.texts)
        self.assertEqual(run.rows, [])
        names = {function.name for function in run.seen}
        self.assertTrue({"__getitem__", "_index_of", "names", "facts", "_how_many_upto", "lowest", "check_word"} <= names, names)

    def test_what_operators_run_is_seen(self):
        for told, wrong in (
            ("return self._index_of(at)", []),
            ("self.held = at", [6]),
            ("return self._rows.index(at)", [6]),
            ("return _place_of(self, at)", [14]),
            ("return at(self)", [6]),
            ("return self.index(at)", [6]),
            ("return len(sorted(self._rows))", []),
        ):
            text = CLASS.replace("PASS", told)
            run = Run({"errors": "class Bad:\n    def __init__(self, index):\n        self.index = index\n", "one": text})
            self.assertEqual([row for file, row, _ in run.rows if file == "one"], wrong, told)

    def test_imports_name_the_file_that_defines_and_go_in_no_circle(self):
        below = {}
        for name, text in self.texts.items():
            below[name] = set()
            for module, imported in imports_of(text):
                if module.startswith("openranges."):
                    source = module.split(".")[1]
                    below[name].add(source)
                    self.assertIn(imported, defined_in(self.texts[source]), name)
        while below:
            free = [name for name, sources in below.items() if not sources & set(below)]
            self.assertTrue(free, f"a circle in {sorted(below)}")
            for name in free:
                del below[name]

    def test_the_package_itself_binds_nothing(self):
        self.assertEqual(defined_in(self.texts["__init__"]) | set(imports_of(self.texts["__init__"])), set())

    def test_powers_have_a_written_exponent_from_0_to_64(self):
        for name, text in self.texts.items():
            for node in ast.walk(ast.parse(text)):
                if isinstance(node, (ast.BinOp, ast.AugAssign)) and isinstance(node.op, ast.Pow):
                    exponent = node.right if isinstance(node, ast.BinOp) else node.value
                    number = exponent.value if isinstance(exponent, ast.Constant) else None
                    written = type(number) is int and 0 <= number <= 64
                    self.assertTrue(written, f"{name} row {node.lineno}")


if __name__ == "__main__":
    unittest.main()
