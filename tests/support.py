"""What several tests ask for."""

import unittest


class Asking(unittest.TestCase):
    def fails(self, kind, action, *arguments, **fields):
        """Whether a call raises just this error, with these fields; `under` goes to the call."""
        keywords = {"under": fields.pop("under")} if "under" in fields else {}
        with self.assertRaises(kind) as caught:
            action(*arguments, **keywords)
        self.assertIs(type(caught.exception), kind)
        self.assertEqual(vars(caught.exception), fields)

    def is_tuple(self, value, expected):
        """Whether a value is this plain tuple."""
        self.assertIs(type(value), tuple)
        self.assertEqual(value, expected)

    def is_list(self, value, expected):
        """Whether a value is this plain list."""
        self.assertIs(type(value), list)
        self.assertEqual(value, expected)
