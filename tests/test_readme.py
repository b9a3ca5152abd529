"""The examples of README.md give what it shows."""

import doctest
import pathlib
import unittest


class Readme(unittest.TestCase):
    def test_the_examples(self):
        path = pathlib.Path(__file__).resolve().parent.parent / "README.md"
        failed, many = doctest.testfile(str(path), module_relative=False)
        self.assertEqual(failed, 0)
        self.assertGreater(many, 20)


if __name__ == "__main__":
    unittest.main()
