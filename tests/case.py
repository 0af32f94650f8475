"""What several test files check with."""

import unittest


class Case(unittest.TestCase):
    def raises(self, kind, told, function, *values):
        """The error is of just this kind, and has just these attributes."""
        with self.assertRaises(kind) as caught:
            function(*values)
        self.assertIs(type(caught.exception), kind)
        self.assertEqual(vars(caught.exception), told)
