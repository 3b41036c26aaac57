"""Points [12] to [16]: locks, peels, branches, and how a guard is freed."""

import itertools
import unittest

from apartguards.errors import Locked, NoPaper, NoRoom
from apartguards.locks import branch_lock, branch_locked, check_lock, check_peel, freed, lock, peel
from apartguards.settings import reached, slid
from apartguards.trees import Tree
from tests import papers, plain
from tests.case import GuardCase

# Rooms 0 to 8 in a lane, and 9 beside 4: room 9 alone lets out all five guards, who'd be a lock of the lane.
SPUR = plain.lane(9) + [(4, 9)]


def tried():
    """Small trees, each with all of its settings."""
    return [(ways, setting) for ways in plain.small_trees() for setting in plain.settings(ways)]


def great_settings():
    """Trees of sixty rooms with a few settings each, of few guards and many."""
    rows = [(ways, papers.drawn_setting(ways, many, many)) for ways in plain.great_trees() for many in (1, 9, 20, 60)]
    rows += [(plain.lane(60), tuple(range(0, 60, 2))), (plain.star(60), tuple(range(1, 60)))]
    rows += [(ways, papers.leaves(ways)) for ways in plain.great_trees()]
    return rows + [(plain.lane(59), tuple(range(0, 59, 2))), (plain.star(60), (0,)), (plain.star(60), (7, 41))]


class Lock(GuardCase):
    """Point [12]."""

    def test_the_greatest_lock_is_all_guards_that_never_move(self):
        for ways, setting in tried():
            told = lock(Tree(ways), setting)
            self.assertIs(type(told), tuple)
            ever = reached(Tree(ways), setting)
            self.assertEqual(told, tuple([guard for guard in setting if all(guard in one for one in ever)]))

    def test_the_greatest_lock_is_all_locks_together(self):
        for ways, setting in tried():
            together = {guard for some in papers.locks(ways, setting) for guard in some}
            self.assertEqual(lock(Tree(ways), setting), tuple(sorted(together)))

    def test_the_guard_of_a_tree_of_one_room_is_a_lock(self):
        self.assertEqual(lock(Tree([]), (0,)), (0,))
        self.assertEqual(lock(Tree([]), ()), ())
        self.assertEqual(lock(Tree([(0, 1)]), (0,)), ())

    def test_no_guard_is_no_lock(self):
        for ways in plain.small_trees() + plain.great_trees():
            self.assertEqual(lock(Tree(ways), ()), ())

    def test_all_leaves(self):
        self.assertEqual(lock(Tree(plain.star(60)), tuple(range(1, 60))), tuple(range(1, 60)))
        self.assertEqual(lock(Tree(plain.star(3)), (1, 2)), (1, 2))
        self.assertEqual(lock(Tree(plain.lane(5)), (0, 4)), ())
        self.assertEqual(lock(Tree(plain.comb(60)), papers.leaves(plain.comb(60))), ())

    def test_some_guards_are_locked_and_some_are_not(self):
        self.assertEqual(lock(Tree(plain.lane(9)), (0, 2, 4, 6, 8)), (0, 2, 4, 6, 8))
        self.assertEqual(lock(Tree(SPUR), (0, 2, 4, 6, 8)), ())
        tree = Tree(plain.star(6) + [(5, 6), (6, 7), (7, 8)])
        self.assertEqual(lock(tree, (1, 2, 7)), (1, 2))
        self.assertEqual(lock(tree, (1, 2, 5, 8)), (1, 2))
        self.assertEqual(lock(tree, (1, 2, 5, 7)), (1, 2))
        self.assertEqual(lock(tree, (1, 2, 6, 8)), (1, 2))
        self.assertEqual(lock(tree, (1, 6, 8)), ())
        tree = Tree([(0, 1), (0, 2), (0, 3), (3, 4), (4, 5), (5, 6), (5, 7)])
        self.assertEqual(lock(tree, (1, 2, 6, 7)), (1, 2, 6, 7))
        self.assertEqual(lock(tree, (1, 2, 3, 6, 7)), (1, 2, 6, 7))
        self.assertEqual(lock(tree, (1, 2, 4, 6)), (1, 2))

    def test_sixty_rooms(self):
        with plain.within(60):
            for ways, setting in great_settings():
                self.assertEqual(lock(Tree(ways), setting), papers.lock(ways, setting))
            self.assertEqual(lock(Tree(plain.lane(59)), tuple(range(0, 59, 2))), tuple(range(0, 59, 2)))
            self.assertEqual(lock(Tree(plain.lane(60)), tuple(range(0, 60, 2))), ())

    def test_what_is_no_setting(self):
        self.settings_refused(lock)


class Peel(GuardCase):
    """Point [13], peel."""

    def hold_peel(self, ways, setting):
        told = peel(Tree(ways), setting)
        self.assertIs(type(told), list)
        self.assertIsNone(papers.place_of_peel(ways, setting, told), (ways, setting))
        self.assertIsNone(check_peel(Tree(ways), setting, told))
        locked = papers.lock(ways, setting)
        self.assertEqual(sorted([guard for guard, _ in told]), [one for one in setting if one not in locked])
        self.assertEqual(peel(Tree(ways[::-1]), setting), told)

    def test_the_guards_outside_of_the_greatest_lock_one_behind_the_other(self):
        for ways, setting in tried():
            self.hold_peel(ways, setting)

    def test_nothing_to_peel(self):
        self.assertEqual(peel(Tree([]), (0,)), [])
        self.assertEqual(peel(Tree([]), ()), [])
        self.assertEqual(peel(Tree(plain.star(60)), tuple(range(1, 60))), [])

    def test_guards_that_can_go_only_behind_others(self):
        self.assertEqual(peel(Tree(plain.lane(6)), (0, 2, 4)), [(4, 5), (2, 3), (0, 1)])
        lane = plain.lane(60)
        told = [(room, room + 1) for room in range(58, -1, -2)]
        self.assertEqual(peel(Tree(lane), tuple(range(0, 60, 2))), told)

    def test_sixty_rooms(self):
        with plain.within(60):
            for ways, setting in great_settings():
                self.hold_peel(ways, setting)

    def test_what_is_no_setting(self):
        self.settings_refused(peel)


class CheckPeel(GuardCase):
    """Point [13], check_peel."""

    def test_every_short_list_against_a_plain_look(self):
        for ways in [ways for rooms in range(1, 5) for ways in plain.every_tree(rooms)] + [plain.lane(5)]:
            steps = [*itertools.product(range(-1, len(ways) + 2), repeat=2)]
            for setting in plain.settings(ways):
                for many in range(3 if len(ways) < 4 else 2):
                    for answer in itertools.product(steps, repeat=many):
                        at = papers.place_of_peel(ways, setting, list(answer))
                        self.answered(at, check_peel, Tree(ways), setting, list(answer))

    def test_peels_in_other_orders_and_with_other_rooms(self):
        for ways in (plain.lane(7), plain.comb(7), plain.drawn(7, 3), plain.drawn(8, 4)):
            for setting in plain.settings(ways):
                steps = [(guard, room) for guard in setting for room in plain.near(ways, guard)]
                for answer in itertools.permutations(steps, min(3, len(steps))):
                    at = papers.place_of_peel(ways, setting, list(answer))
                    self.answered(at, check_peel, Tree(ways), setting, list(answer))

    def test_a_peel_of_others(self):
        tree = Tree(plain.lane(6))
        self.assertIsNone(check_peel(tree, (1, 4), [(4, 3), (1, 2)]))
        self.assertIsNone(check_peel(tree, (1, 4), [(1, 0), (4, 5)]))
        self.assertIsNone(check_peel(tree, (0, 2, 4), [(4, 5), (2, 3), (0, 1)]))
        self.refused(NoPaper, {"at": 1}, check_peel, tree, (0, 2, 4), [(4, 5), (2, 1), (0, 1)])
        self.refused(NoPaper, {"at": 0}, check_peel, tree, (0, 2, 4), [(4, 3), (2, 3), (0, 1)])
        self.refused(NoPaper, {"at": 1}, check_peel, tree, (0, 2, 4), [(4, 5), (0, 1), (2, 3)])

    def test_a_guard_that_stands_ahead(self):
        tree = Tree(plain.lane(6))
        self.refused(NoPaper, {"at": 1}, check_peel, tree, (1, 4), [(1, 0), (1, 0), (4, 5)])
        self.refused(NoPaper, {"at": 2}, check_peel, tree, (1, 4), [(1, 0), (4, 5), (1, 2)])

    def test_a_guard_of_the_greatest_lock(self):
        tree = Tree(plain.star(6) + [(5, 6), (6, 7), (7, 8)])
        self.assertIsNone(check_peel(tree, (1, 2, 7), [(7, 8)]))
        self.assertIsNone(check_peel(tree, (1, 2, 7), [(7, 6)]))
        self.refused(NoPaper, {"at": 1}, check_peel, tree, (1, 2, 7), [(7, 6), (1, 0)])
        self.refused(NoPaper, {"at": 0}, check_peel, tree, (1, 2, 7), [(2, 0), (7, 6)])

    def test_some_guard_could_follow_still(self):
        tree = Tree(plain.lane(6))
        self.refused(NoPaper, {"at": 0}, check_peel, tree, (0, 2, 4), [])
        self.refused(NoPaper, {"at": 1}, check_peel, tree, (0, 2, 4), [(4, 5)])
        self.refused(NoPaper, {"at": 2}, check_peel, tree, (0, 2, 4), [(4, 5), (2, 3)])
        for ways, setting in great_settings():
            told = peel(Tree(ways), setting)
            for many in range(0, len(told), 7):
                self.refused(NoPaper, {"at": many}, check_peel, Tree(ways), setting, told[:many])

    def test_nobody_is_left_or_everybody_is_locked(self):
        for ways, setting in (([], ()), ([], (0,)), (plain.lane(60), ()), (plain.star(60), (1, 2))):
            self.assertIsNone(check_peel(Tree(ways), setting, []))
            self.refused(NoPaper, {"at": 0}, check_peel, Tree(ways), setting, [(0, 0)])
            self.refused(NoPaper, {"at": 0}, check_peel, Tree(ways), setting, [(1, 0)])

    def test_what_is_no_list(self):
        things = [thing for thing in plain.ODD_THINGS if not isinstance(thing, list)]
        for thing in [*things, ((4, 5), (1, 2)), {(1, 0)}, {1: 0}, (1, 0), Tree([])]:
            self.refused(NoPaper, {"at": -1}, check_peel, Tree(plain.lane(6)), (1, 4), thing)
            self.refused(NoPaper, {"at": -1}, check_peel, Tree([]), (), thing)

    def test_what_is_no_step(self):
        tree = Tree(plain.lane(6))
        odd = [*plain.ODD_THINGS, [1, 0], (1, 0, 0), (4,), (1, 3), (1, 1), (1, -1), (1, 6), (0, 1), (3, 4), (6, 5)]
        odd += [(True, 0), (1, False), (1, True), ([1], 0), (1, [0]), ({}, {}), (None, 0), (1, None), ("1", "0")]
        for thing in [*odd, (-2, 5), (4, -1), (1, 10**30), (10**30, 0)]:
            self.refused(NoPaper, {"at": 0}, check_peel, tree, (1, 4), [thing])
            self.refused(NoPaper, {"at": 1}, check_peel, tree, (1, 4), [(4, 3), thing, (1, 0)])
            self.refused(NoPaper, {"at": 2}, check_peel, tree, (1, 4), [(4, 3), (1, 0), thing])

    def test_what_is_no_setting(self):
        for answer in ([], None, [None]):
            self.settings_refused(check_peel, answer)


class CheckLock(GuardCase):
    """Point [14]."""

    def test_every_short_tuple_against_a_plain_look(self):
        for ways in [ways for ways in plain.small_trees() if len(ways) < 6]:
            for setting in plain.settings(ways):
                rooms = (*setting, 0, len(ways) + 1) if len(ways) > 3 else range(-1, len(ways) + 2)
                for many in range(4):
                    for guards in itertools.product(rooms, repeat=many):
                        at = papers.place_of_lock(ways, setting, guards)
                        self.answered(at, check_lock, Tree(ways), setting, guards)

    def test_every_lock_in_every_order(self):
        for ways, setting in tried():
            for some in papers.locks(ways, setting):
                for guards in itertools.islice(itertools.permutations(some), 30):
                    self.assertIsNone(check_lock(Tree(ways), setting, guards))

    def test_some_locks(self):
        self.assertIsNone(check_lock(Tree(SPUR), (0, 2, 4, 6, 8), ()))
        for guards in ((0, 2, 4, 6, 8), (8, 6, 4, 2, 0), (4, 0, 8, 2, 6), (0, 2, 6, 8, 4)):
            self.refused(NoPaper, {"at": 5 + guards.index(4)}, check_lock, Tree(SPUR), (0, 2, 4, 6, 8), guards)
        tree = Tree(plain.star(6))
        self.assertIsNone(check_lock(tree, (1, 2, 3), (3, 1)))
        self.assertIsNone(check_lock(tree, (1, 2, 3), (2, 3, 1)))
        self.assertIsNone(check_lock(Tree([]), (0,), (0,)))
        self.assertIsNone(check_lock(Tree([]), (0,), ()))

    def test_one_that_has_a_room_with_no_other_one_beside(self):
        tree = Tree(plain.lane(9))
        self.refused(NoPaper, {"at": 1}, check_lock, tree, (0, 2, 4, 6, 8), (2,))
        self.refused(NoPaper, {"at": 5}, check_lock, tree, (0, 2, 4, 6, 8), (0, 2, 6, 8))
        self.refused(NoPaper, {"at": 6}, check_lock, tree, (0, 2, 4, 6, 8), (8, 0, 6, 2))
        self.refused(NoPaper, {"at": 7}, check_lock, tree, (0, 2, 4, 6, 8), (0, 2, 4, 6))
        self.refused(NoPaper, {"at": 4}, check_lock, tree, (0, 2, 4, 6, 8), (6, 0, 2, 4))
        self.assertIsNone(check_lock(tree, (0, 2, 4, 6, 8), (4, 8, 2, 0, 6)))

    def test_what_is_no_guard_or_stands_ahead(self):
        tree = Tree(plain.star(6))
        for thing in (*plain.ODD_THINGS, 0, 4, 5, 6, 1, 2):
            self.refused(NoPaper, {"at": 2}, check_lock, tree, (1, 2, 3), (1, 2, thing))
            self.refused(NoPaper, {"at": 2}, check_lock, tree, (1, 2, 3), (2, 1, thing, 3, thing))
        for thing in (*plain.ODD_THINGS, 0, 4, 5, 6):
            self.refused(NoPaper, {"at": 0}, check_lock, tree, (1, 2, 3), (thing, thing))
            self.refused(NoPaper, {"at": 0}, check_lock, Tree([]), (), (thing,))
        self.refused(NoPaper, {"at": 1}, check_lock, tree, (1, 2, 3), (1, 1))
        self.refused(NoPaper, {"at": 0}, check_lock, Tree([]), (0,), (False,))
        self.refused(NoPaper, {"at": 1}, check_lock, Tree([]), (0,), (0, 0))

    def test_what_is_no_tuple(self):
        things = [thing for thing in plain.ODD_THINGS if not isinstance(thing, tuple)]
        for thing in [*things, [1, 2], {1, 2}, {1: 2}, range(1, 3), Tree([])]:
            self.refused(NoPaper, {"at": -1}, check_lock, Tree(plain.star(6)), (1, 2, 3), thing)

    def test_sixty_rooms(self):
        with plain.within(60):
            for ways, setting in great_settings():
                told = lock(Tree(ways), setting)
                self.assertIsNone(check_lock(Tree(ways), setting, told[::-1]))
                for guards in (setting, setting[::-1], told[1:], told[:-1], told[::2], (*told, 60), (*told, *told)):
                    at = papers.place_of_lock(ways, setting, guards)
                    self.answered(at, check_lock, Tree(ways), setting, guards)

    def test_what_is_no_setting(self):
        for guards in ((), None, (None,)):
            self.settings_refused(check_lock, guards)


class Branches(GuardCase):
    """Point [15]."""

    def hold_branches(self, ways, setting):
        tree = Tree(ways)
        for one, other in [*ways, *[way[::-1] for way in ways]]:
            told = papers.branch_lock(ways, setting, one, other)
            self.assertEqual(branch_lock(tree, setting, one, away=other), told)
            if one in setting:
                self.assertIs(branch_locked(tree, setting, one, away=other), one in told)
            else:
                self.refused(NoRoom, {"room": one}, branch_locked, tree, setting, one, away=other)

    def test_branches_against_a_plain_search(self):
        for ways, setting in tried():
            self.hold_branches(ways, setting)

    def test_branches_are_locked_as_trees_by_themselves_are(self):
        for ways, setting in [(ways, setting) for ways, setting in tried() if len(ways) < 6]:
            for room, away in ways:
                rooms = plain.hanging(ways, room, [away])
                number = {inside: at for at, inside in enumerate(rooms)}
                alone = [(number[a], number[b]) for a, b in papers.inside(ways, rooms)]
                guards = tuple([number[guard] for guard in setting if guard in rooms])
                ever = reached(Tree(alone), guards)
                told = tuple([guard for guard in setting if guard in rooms and all(number[guard] in one for one in ever)])
                self.assertEqual(branch_lock(Tree(ways), setting, room, away=away), told)

    def test_a_branch_of_one_room(self):
        tree = Tree(plain.star(60))
        self.assertEqual(branch_lock(tree, (1, 2), 1, away=0), (1,))
        self.assertEqual(branch_lock(tree, (1, 2), 3, away=0), ())
        self.assertIs(branch_locked(tree, (1, 2), 1, away=0), True)
        self.assertEqual(branch_lock(tree, (1, 2), 0, away=1), ())
        self.assertEqual(branch_lock(tree, (1, 2, 9), 0, away=1), (2, 9))
        self.assertEqual(lock(tree, (1,)), ())

    def test_a_lane(self):
        tree = Tree(plain.lane(9))
        self.assertEqual(branch_lock(tree, (0, 2, 4, 7), 4, away=5), (0, 2, 4))
        self.assertIs(branch_locked(tree, (0, 2, 4, 7), 4, away=5), True)
        self.assertIs(branch_locked(tree, (0, 2, 4, 7), 4, away=3), False)
        self.assertEqual(branch_lock(tree, (0, 2, 4, 7), 3, away=4), ())
        self.assertEqual(branch_lock(tree, (0, 2, 4, 7), 2, away=3), (0, 2))

    def test_sixty_rooms(self):
        with plain.within(120):
            for ways, setting in great_settings()[::2]:
                self.hold_branches(ways, setting)

    def test_what_is_no_setting(self):
        self.settings_refused(branch_lock, None, away=None)
        self.settings_refused(branch_locked, None, away=None)
        self.settings_refused(branch_lock, 0, away=1)
        self.settings_refused(branch_locked, 0, away=1)

    def test_what_is_no_room(self):
        tree = Tree(plain.lane(6))
        for thing in (*plain.ODD_THINGS, 6):
            for call in (branch_lock, branch_locked):
                self.refused(NoRoom, {"room": thing}, call, tree, (0, 2), thing, away=1)
                self.refused(NoRoom, {"room": thing}, call, tree, (0, 2), thing, away="x")
                self.refused(NoRoom, {"room": thing}, call, tree, (0, 2), 0, away=thing)
                self.refused(NoRoom, {"room": thing}, call, tree, (0, 2), 5, away=thing)

    def test_rooms_that_are_not_side_by_side(self):
        tree = Tree(plain.lane(6))
        for away in (0, 2, 3, 5):
            self.refused(NoRoom, {"room": away}, branch_lock, tree, (0, 2), 0, away=away)
            self.refused(NoRoom, {"room": away}, branch_locked, tree, (0, 2), 0, away=away)
            self.refused(NoRoom, {"room": 4}, branch_locked, tree, (0, 2), 4, away=away)
        self.refused(NoRoom, {"room": 0}, branch_lock, Tree([]), (0,), 0, away=0)
        self.refused(NoRoom, {"room": 0}, branch_locked, Tree([]), (0,), 0, away=0)


class Freed(GuardCase):
    """Point [16]."""

    def hold_freed(self, ways, setting):
        tree, locked = Tree(ways), papers.lock(ways, setting)
        for guard in setting:
            if guard in locked:
                self.refused(Locked, {"lock": locked}, freed, tree, setting, guard)
                continue
            told = freed(tree, setting, guard)
            self.assertIs(type(told), list)
            self.assertIsNone(papers.slid(ways, setting, told)[1], (ways, setting, guard))
            self.assertEqual(told[-1][0], guard)
            self.assertEqual(len({room for room, _ in told}), len(told))
            self.assertEqual([room for room, _ in told if room not in setting], [])
            self.assertEqual(len(slid(tree, setting, told)), len(setting))

    def test_slides_each_guard_moved_once_at_most_the_guard_last(self):
        for ways, setting in tried():
            self.hold_freed(ways, setting)

    def test_a_guard_behind_many(self):
        told = [(room, room + 1) for room in range(58, -1, -2)]
        self.assertEqual(freed(Tree(plain.lane(60)), tuple(range(0, 60, 2)), 0), told)
        self.assertEqual(freed(Tree(plain.lane(60)), tuple(range(0, 60, 2)), 30), told[:15])

    def test_two_guards_in_the_way(self):
        ways = [(0, 1), (1, 2), (2, 3), (1, 4), (4, 5)]
        self.assertEqual(freed(Tree(ways), (0, 2, 4), 0), [(2, 3), (4, 5), (0, 1)])
        self.assertEqual(freed(Tree(ways), (0, 2, 4), 4), [(4, 5)])

    def test_sixty_rooms(self):
        with plain.within(120):
            for ways, setting in great_settings():
                self.hold_freed(ways, setting)

    def test_one_room(self):
        self.refused(Locked, {"lock": (0,)}, freed, Tree([]), (0,), 0)
        self.refused(NoRoom, {"room": 0}, freed, Tree([]), (), 0)
        self.assertEqual(freed(Tree([(0, 1)]), (1,), 1), [(1, 0)])

    def test_what_is_no_room_or_has_no_guard(self):
        tree = Tree(plain.star(6))
        for thing in (*plain.ODD_THINGS, 6, 0, 3, 5):
            self.refused(NoRoom, {"room": thing}, freed, tree, (1, 2), thing)
            self.refused(NoRoom, {"room": thing}, freed, tree, (), thing)

    def test_what_is_no_setting(self):
        self.settings_refused(freed, 0)
        self.settings_refused(freed, None)


if __name__ == "__main__":
    unittest.main()
