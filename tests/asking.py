"""What the tests of several modules ask alike."""

import unittest

from focuswalk.errors import FocusError


class Asking(unittest.TestCase):
    def refused(self, kind, ask, *given):
        """The refusal, which is of this very kind."""
        with self.assertRaises(FocusError) as caught:
            ask(*given)
        self.assertIs(type(caught.exception), kind)
        return caught.exception

    def own_list(self, ask, *given):
        """What is told is a list, and what is done to it changes no later answer."""
        first = ask(*given)
        self.assertIs(type(first), list)
        kept = list(first)
        first.append("zz")
        first.reverse()
        second = ask(*given)
        self.assertEqual(second, kept)
        first.clear()
        self.assertEqual(second, kept)
        self.assertEqual(ask(*given), kept)
