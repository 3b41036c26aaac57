"""Points [50] and [51]: leaps from a setting to another one of as many guards."""

import itertools
import unittest

from apartguards.errors import NoPaper, Unlike
from apartguards.leaps import check_leaps, leaps
from apartguards.trees import Tree
from tests import greatest, papers, plain
from tests.case import GuardCase


def alike(ways, settings=None):
    """Each two settings of as many guards."""
    pairs = itertools.product(plain.settings(ways) if settings is None else settings, repeat=2)
    return [(one, other) for one, other in pairs if len(one) == len(other)]


def great_alike():
    """Trees of sixty rooms, each with two settings of as many guards."""
    rows = []
    for ways in plain.great_trees():
        for many, seed in itertools.product((0, 1, 2, 7, 15, 60), range(3)):
            one, other = papers.drawn_setting(ways, many, seed), papers.drawn_setting(ways, many, seed + 50)
            fewer = min(len(one), len(other))
            rows.append((ways, one[:fewer], other[len(other) - fewer :]))
    rows.append((plain.lane(60), tuple(range(0, 60, 2)), tuple(range(1, 60, 2))))
    rows.append((plain.comb(60), tuple(range(1, 60, 2)), (*range(1, 57, 2), 58)[:30]))
    rows.append((plain.star(60), tuple(range(1, 30)), tuple(range(31, 60))))
    return [(ways, one, other) for ways, one, other in rows if len(one) == len(other)]


class AlikeCase(GuardCase):
    def alike_refused(self, call, *rest):
        """Hold that no setting, the one ahead of the other, and then unlike numbers are refused."""
        for other in ((), None, (0, 0), (0,)):
            self.settings_refused(call, other, *rest)
        for one in ((), (0,), (1,)):
            self.settings_refused(lambda tree, other: call(tree, one, other, *rest))
        for ways, one, other in ((plain.lane(6), (0, 2, 4), (1,)), (plain.star(60), (0,), tuple(range(1, 60)))):
            for pair in ((one, other), (other, one), (one, ()), ((), one)):
                fields = {"many": len(pair[0]), "more": len(pair[1])}
                self.refused(Unlike, fields, call, Tree(ways), *pair, *rest)
        self.refused(Unlike, {"many": 0, "more": 1}, call, Tree([]), (), (0,), *rest)
        self.refused(Unlike, {"many": 1, "more": 0}, call, Tree([]), (0,), (), *rest)


class Leaps(AlikeCase):
    """Point [50]."""

    def hold(self, ways, one, other):
        """Do the leaps one by one, and hold them against the rooms of the one that aren't of the other."""
        told = leaps(Tree(ways), one, other)
        self.assertIs(type(told), list)
        self.assertEqual(papers.leapt(ways, one, told), (other, None), (ways, one, other))
        # As many as that and no guard twice: so each goes from a room of the one alone into one of the other alone.
        self.assertEqual(sorted([move[0] for move in told]), sorted(set(one) - set(other)))
        self.assertEqual(sorted([move[1] for move in told]), sorted(set(other) - set(one)))
        self.assertEqual(check_leaps(Tree(ways), one, other, told), len(told))
        return len(told)

    def test_each_two_settings_of_small_trees(self):
        for ways in plain.small_trees():
            for one, other in alike(ways)[:: 1 + len(ways) // 6]:
                self.hold(ways, one, other)

    def test_as_few_as_can_be_out_of_all_rows_of_leaps(self):
        for ways in plain.small_trees()[::2]:
            settings = plain.settings(ways)
            for one in settings[::3]:
                far = greatest.steps_from(one, settings, greatest.a_leap_apart)
                # By leaps each setting of as many guards comes of each other one.
                self.assertEqual(sorted(far), sorted([other for other in settings if len(other) == len(one)]))
                for other in far:
                    self.assertEqual(self.hold(ways, one, other), far[other])

    def test_some_leaps(self):
        self.assertEqual(leaps(Tree([(0, 1)]), (0,), (1,)), [(0, 1)])
        self.assertEqual(leaps(Tree(plain.lane(4)), (0, 2), (1, 3)), [(2, 3), (0, 1)])
        self.assertEqual(leaps(Tree(plain.lane(4)), (1, 3), (0, 2)), [(1, 0), (3, 2)])
        self.assertEqual(leaps(Tree(plain.star(5)), (0,), (4,)), [(0, 4)])
        self.assertEqual(leaps(Tree(plain.star(6)), (1, 2, 5), (2, 3, 5)), [(1, 3)])

    def test_the_same_setting_twice(self):
        for ways in [*plain.small_trees(), *plain.great_trees()]:
            for many in (0, 1, 3, 60):
                setting = papers.drawn_setting(ways, many, many)
                self.assertEqual(leaps(Tree(ways), setting, setting), [])

    def test_one_room(self):
        self.assertEqual(leaps(Tree([]), (), ()), [])
        self.assertEqual(leaps(Tree([]), (0,), (0,)), [])

    def test_sixty_rooms(self):
        with plain.within(60):
            for ways, one, other in great_alike():
                self.hold(ways, one, other)
                self.hold(ways, other, one)
            self.assertEqual(self.hold(plain.lane(60), tuple(range(0, 60, 2)), tuple(range(1, 60, 2))), 30)

    def test_what_is_told_is_the_same_again(self):
        for ways, one, other in great_alike()[::3]:
            self.assertEqual(leaps(Tree(ways[::-1]), one, other), leaps(Tree(ways), one, other))

    def test_what_is_refused(self):
        self.alike_refused(leaps)


class CheckLeaps(AlikeCase):
    """Point [51]."""

    def hold(self, ways, one, other, answer):
        at = papers.place_of_leaps(ways, one, other, answer)
        if at is None:
            told = check_leaps(Tree(ways), one, other, answer)
            self.assertEqual((told, type(told)), (len(answer), int))
        else:
            self.refused(NoPaper, {"at": at}, check_leaps, Tree(ways), one, other, answer)
        return at

    def test_every_short_row_against_a_plain_look(self):
        found = 0
        for ways in [ways for rooms in range(1, 4) for ways in plain.every_tree(rooms)] + [plain.lane(4)]:
            steps = list(itertools.product(papers.rooms_of(ways), repeat=2))
            for one, other in alike(ways):
                for many in range(3):
                    for moves in itertools.product(steps, repeat=many):
                        found += self.hold(ways, one, other, list(moves)) is None
        self.assertGreater(found, 100)

    def test_rows_of_others_however_many(self):
        tree = Tree(plain.lane(6))
        self.assertEqual(check_leaps(tree, (0, 2), (0, 2), []), 0)
        self.assertEqual(check_leaps(tree, (0, 2), (1, 3), [(2, 3), (0, 1)]), 2)
        self.assertEqual(check_leaps(tree, (0, 2), (0, 5), [(2, 5)]), 1)
        self.assertEqual(check_leaps(tree, (0, 2), (0, 5), [(0, 5), (2, 0)]), 2)
        self.assertEqual(check_leaps(tree, (0, 2), (0, 2), [(0, 4), (4, 0)] * 50), 100)
        self.assertEqual(check_leaps(tree, (0, 2), (1, 3), [(0, 5), (2, 3), (5, 1)]), 3)

    def test_what_leads_elsewhere(self):
        tree = Tree(plain.lane(6))
        self.refused(NoPaper, {"at": 0}, check_leaps, tree, (0, 2), (1, 3), [])
        self.refused(NoPaper, {"at": 1}, check_leaps, tree, (0, 2), (1, 3), [(2, 3)])
        self.refused(NoPaper, {"at": 2}, check_leaps, tree, (0, 2), (1, 3), [(2, 3), (0, 5)])
        self.refused(NoPaper, {"at": 2}, check_leaps, tree, (0, 2), (0, 2), [(2, 3), (0, 1)])

    def test_what_is_no_leap_when_its_turn_comes(self):
        tree = Tree(plain.lane(6))
        for thing in [*plain.ODD_THINGS, (0, 0), (0, 1), (0, 6), (3, 5), (1, 4), (0, 4, 4), [0, 4], (0, -1), (0,)]:
            self.refused(NoPaper, {"at": 0}, check_leaps, tree, (0, 2), (3, 5), [thing, (0, 5)])
        for thing in [*plain.ODD_THINGS, (0, 4), (0, 2), (2, 4), (5, 6), (2, True), (False, 1), (2, 5), ([5], 3)]:
            self.refused(NoPaper, {"at": 1}, check_leaps, tree, (0, 2), (3, 5), [(0, 5), thing, None])

    def test_what_is_no_list(self):
        right = [(2, 3), (0, 1)]
        odd = [*[thing for thing in plain.ODD_THINGS if type(thing) is not list], tuple(right), dict(right), Tree([])]
        for answer in odd:
            self.refused(NoPaper, {"at": -1}, check_leaps, Tree(plain.lane(6)), (0, 2), (1, 3), answer)
            self.refused(NoPaper, {"at": -1}, check_leaps, Tree([]), (0,), (0,), answer)

    def test_sixty_rooms(self):
        with plain.within(60):
            for ways, one, other in great_alike():
                told = leaps(Tree(ways), one, other)
                back = [move[::-1] for move in told[::-1]]
                self.assertIsNone(self.hold(ways, other, one, back))
                self.assertIsNone(self.hold(ways, one, one, told + back))
                for answer in (told[::-1], told[1:], told[:-1], back, told + told):
                    self.hold(ways, one, other, answer)

    def test_what_is_refused_ahead(self):
        for answer in (None, [], [(0, 1)], {}):
            self.alike_refused(check_leaps, answer)


if __name__ == "__main__":
    unittest.main()
