"""What the tests of refusals and of handed-in things have in common."""

import copy
import unittest

from apartguards.errors import GuardError


class GuardCase(unittest.TestCase):
    def refused(self, kind, fields, call, *things, **named):
        """Hold that a call is refused with just this class and these fields, its things unchanged."""
        kept = copy.deepcopy((plain_kinds(things), plain_kinds(named.values())))
        with self.assertRaises(GuardError) as caught:
            call(*things, **named)
        self.assertIs(type(caught.exception), kind)
        for name, value in fields.items():
            told = getattr(caught.exception, name)
            self.assertIs(type(told), type(value))
            self.assertTrue(told is value or told == value, (kind, name))
        self.assertEqual(kept, (plain_kinds(things), plain_kinds(named.values())))


def plain_kinds(things):
    """Those things that a deep copy is equal to."""
    return [thing for thing in things if thing is None or isinstance(thing, (int, str, bytes, list, tuple, dict))]
