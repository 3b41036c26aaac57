"""What the tests of refusals and of handed-in things have in common."""

import copy
import unittest

from apartguards.errors import GuardError, NoPaper, NoSetting
from apartguards.trees import Tree
from tests import plain


class GuardCase(unittest.TestCase):
    def refused(self, kind, fields, call, *things, **named):
        """Hold that a call is refused with just this class and these fields, its things unchanged."""
        kept = copy.deepcopy((plain_kinds(things), plain_kinds(named.values())))
        with self.assertRaises(GuardError) as caught:
            call(*things, **named)
        self.assertIs(type(caught.exception), kind)
        for name, value in fields.items():
            told = getattr(caught.exception, name)
            self.assertIs(type(told), type(value))
            self.assertTrue(told is value or told == value, (kind, name))
        self.assertEqual(kept, (plain_kinds(things), plain_kinds(named.values())))

    def answered(self, at, call, *things):
        """Hold that an answer is told None, or refused at a place."""
        if at is None:
            self.assertIsNone(call(*things), things)
        else:
            self.refused(NoPaper, {"at": at}, call, *things)

    def settings_refused(self, call, *rest, **named):
        """Hold that what is no setting is refused ahead of all else."""
        for ways in ([(0, 1)], plain.lane(6), plain.star(60)):
            tree = Tree(ways)
            for thing, at in wrong_settings(tree):
                self.refused(NoSetting, {"at": at}, call, tree, thing, *rest, **named)


def plain_kinds(things):
    """Those things that a deep copy is equal to."""
    return [thing for thing in things if thing is None or isinstance(thing, (int, str, bytes, list, tuple, dict))]


def wrong_settings(tree):
    """What is no setting, each with the place that is told; of two rooms or more."""
    rooms = len(tree)
    wrong = [(thing, -1) for thing in plain.ODD_THINGS if not isinstance(thing, tuple)]
    wrong += [([], -1), ([0], -1), ({0}, -1), (range(1), -1), (Tree([]), -1)]
    for thing in (*plain.ODD_THINGS, rooms):
        wrong += [((thing,), 0), ((0, thing), 1), ((thing, 0), 0), ((0, thing, thing), 1)]
    wrong += [((0, 0), 1), ((rooms - 1, 0), 1), ((0, tree.beside(0)[0]), 1), ((0, 0, None), 1), ((0, None, 0), 1)]
    return wrong
