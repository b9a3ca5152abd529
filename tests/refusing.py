"""A test case that asks for an error and its first field."""

import unittest


class Refusing(unittest.TestCase):
    def refused(self, error, value, action):
        with self.assertRaises(error) as caught:
            action()
        self.assertIs(type(caught.exception), error)
        self.assertIs(next(iter(vars(caught.exception).values())), value)
