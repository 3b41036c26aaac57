"""Points [8], [9] and [10]: settings, what can be done from one, and which there are."""

import itertools
import unittest

from apartguards.errors import NoSetting, NoSlide, TooMany
from apartguards.settings import all_settings, check_setting, leaps_from, leapt, reached, slid, slides
from apartguards.trees import Tree
from tests import plain
from tests.case import GuardCase, wrong_settings


def arms(lengths):
    """Guards in 1 and 2, who keep each other in beside room 0, and lanes from there with a guard each."""
    ways, setting = [(0, 1), (0, 2)], [1, 2]
    for length in lengths:
        first = len(ways) + 1
        ways += [(0, first)] + [(room, room + 1) for room in range(first, first + length - 1)]
        setting.append(first)
    return ways, tuple(setting)


class CheckSetting(GuardCase):
    """Point [8]."""

    def test_settings_are_told_none(self):
        for ways in plain.small_trees():
            for setting in plain.settings(ways):
                self.assertIsNone(check_setting(Tree(ways), setting))

    def test_what_is_no_setting_is_refused_with_its_first_wrong_thing(self):
        for ways in plain.small_trees()[1:] + plain.great_trees():
            tree = Tree(ways)
            for thing, at in wrong_settings(tree):
                self.refused(NoSetting, {"at": at}, check_setting, tree, thing)

    def test_the_tree_of_one_room(self):
        tree = Tree([])
        self.assertIsNone(check_setting(tree, ()))
        self.assertIsNone(check_setting(tree, (0,)))
        self.refused(NoSetting, {"at": 0}, check_setting, tree, (1,))
        self.refused(NoSetting, {"at": 1}, check_setting, tree, (0, 0))
        self.refused(NoSetting, {"at": -1}, check_setting, tree, [0])

    def test_a_room_told_twice_or_not_rising(self):
        tree = Tree(plain.lane(7))
        self.refused(NoSetting, {"at": 2}, check_setting, tree, (0, 2, 2))
        self.refused(NoSetting, {"at": 2}, check_setting, tree, (0, 4, 2))
        self.refused(NoSetting, {"at": 1}, check_setting, tree, (4, 0, 2))

    def test_a_room_beside_any_one_ahead(self):
        tree = Tree([(0, 5), (1, 5), (1, 2), (3, 5), (1, 4)])
        self.assertIsNone(check_setting(tree, (0, 2, 3, 4)))
        self.refused(NoSetting, {"at": 3}, check_setting, tree, (0, 2, 3, 5))
        self.refused(NoSetting, {"at": 2}, check_setting, tree, (0, 2, 5))
        self.refused(NoSetting, {"at": 2}, check_setting, tree, (1, 3, 4))

    def test_every_row_of_three_rooms_against_a_plain_search(self):
        for ways in plain.every_tree(4) + [plain.drawn(4, 1)]:
            tree = Tree(ways)
            for row in itertools.product(range(-1, 5), repeat=3):
                at = self.first_wrong(ways, row)
                if at is None:
                    self.assertIsNone(check_setting(tree, row))
                else:
                    self.refused(NoSetting, {"at": at}, check_setting, tree, row)

    def first_wrong(self, ways, row):
        for at, room in enumerate(row):
            ahead = row[:at]
            if room not in range(len(ways) + 1) or list(ahead) != sorted(ahead) or not plain.apart(ways, row[: at + 1]):
                return at
            if ahead and room <= ahead[-1]:
                return at
        return None

    def test_sixty_rooms(self):
        self.assertIsNone(check_setting(Tree(plain.lane(60)), tuple(range(0, 60, 2))))
        self.assertIsNone(check_setting(Tree(plain.star(60)), tuple(range(1, 60))))
        self.assertIsNone(check_setting(Tree(plain.comb(60)), tuple(range(1, 60, 2))))
        self.refused(NoSetting, {"at": 29}, check_setting, Tree(plain.lane(60)), (*range(0, 58, 2), 57))
        self.refused(NoSetting, {"at": 1}, check_setting, Tree(plain.star(60)), tuple(range(60)))
        self.refused(NoSetting, {"at": 59}, check_setting, Tree(plain.star(60)), tuple(range(1, 61)))


class Moves(GuardCase):
    """Point [9]."""

    def test_some_slides_and_leaps(self):
        tree = Tree(plain.lane(5))
        self.assertEqual(slides(tree, (1, 4)), [(1, 0), (1, 2), (4, 3)])
        self.assertEqual(slides(tree, (1, 3)), [(1, 0), (3, 4)])
        self.assertEqual(slides(tree, (0, 2, 4)), [])
        self.assertEqual(leaps_from(tree, (1, 4)), [(1, 0), (1, 2), (4, 3)])
        self.assertEqual(leaps_from(tree, (2,)), [(2, 0), (2, 1), (2, 3), (2, 4)])
        self.assertEqual(leaps_from(tree, (0, 2)), [(0, 4), (2, 3), (2, 4)])

    def test_trees_of_one_room_and_two(self):
        for setting in ((), (0,)):
            self.assertEqual(slides(Tree([]), setting), [])
            self.assertEqual(leaps_from(Tree([]), setting), [])
        self.assertEqual(slides(Tree([(0, 1)]), (0,)), [(0, 1)])
        self.assertEqual(leaps_from(Tree([(0, 1)]), (1,)), [(1, 0)])
        self.assertEqual(leaps_from(Tree([(0, 1)]), ()), [])

    def test_slides_and_leaps_against_a_plain_search(self):
        for ways in plain.small_trees():
            tree = Tree(ways)
            for setting in plain.settings(ways):
                self.assertEqual(slides(tree, setting), plain.slides(ways, setting))
                self.assertEqual(leaps_from(tree, setting), plain.leaps(ways, setting))

    def test_every_move_against_a_plain_search(self):
        for ways in [ways for ways in plain.small_trees() if len(ways) < 6]:
            tree, rooms = Tree(ways), range(len(ways) + 1)
            for setting in plain.settings(ways):
                self.hold_moves(tree, setting, slid, plain.slides(ways, setting), rooms)
                self.hold_moves(tree, setting, leapt, plain.leaps(ways, setting), rooms)

    def hold_moves(self, tree, setting, moved, can_be_done, rooms):
        self.assertEqual(moved(tree, setting, []), setting)
        for move in itertools.product(rooms, repeat=2):
            if move in can_be_done:
                self.assertEqual(moved(tree, setting, [move]), plain.behind(setting, move))
                self.assertEqual(moved(tree, setting, [move, move[::-1]]), setting)
                self.refused(NoSlide, {"at": 1}, moved, tree, setting, [move, move])
            else:
                self.refused(NoSlide, {"at": 0}, moved, tree, setting, [move])

    def test_each_move_is_done_behind_the_one_ahead(self):
        tree = Tree(plain.lane(6))
        self.assertEqual(slid(tree, (0, 2), [(2, 3), (3, 4), (0, 1), (1, 2)]), (2, 4))
        self.assertEqual(slid(tree, (0, 2), [(2, 3), (0, 1), (1, 0), (3, 2)]), (0, 2))
        self.assertEqual(leapt(tree, (0, 2), [(0, 5), (2, 0), (5, 3)]), (0, 3))
        self.assertEqual(leapt(tree, (0, 2), [(2, 3), (0, 5)]), (3, 5))

    def test_a_move_that_cannot_be_done_in_the_middle_of_a_row(self):
        tree = Tree(plain.lane(6))
        self.refused(NoSlide, {"at": 2}, slid, tree, (0, 2), [(2, 3), (3, 4), (2, 3), (9, 9)])
        self.refused(NoSlide, {"at": 1}, slid, tree, (0, 2), [(2, 3), (0, 2), (3, 4)])
        self.refused(NoSlide, {"at": 2}, slid, tree, (0, 3), [(3, 4), (0, 1), (4, 2), (1, 2)])
        self.refused(NoSlide, {"at": 2}, slid, tree, (0, 2), [(2, 3), (0, 1), (1, 2)])
        self.refused(NoSlide, {"at": 1}, leapt, tree, (0, 2), [(0, 5), (2, 4), (5, 3)])
        self.refused(NoSlide, {"at": 1}, leapt, tree, (0, 2), [(0, 5), (0, 3)])

    def test_a_leap_into_its_own_room_or_one_with_a_guard(self):
        tree = Tree(plain.lane(6))
        for moved in (slid, leapt):
            for move in ((0, 0), (0, 2), (2, 0), (3, 4), (3, 3), (0, 1)):
                self.refused(NoSlide, {"at": 0}, moved, tree, (0, 2), [move])

    def test_a_slide_goes_into_a_room_beside_and_a_leap_into_any(self):
        tree = Tree(plain.star(5))
        self.refused(NoSlide, {"at": 0}, slid, tree, (1,), [(1, 2)])
        self.assertEqual(leapt(tree, (1,), [(1, 2)]), (2,))
        self.assertEqual(slid(tree, (1,), [(1, 0), (0, 2)]), (2,))

    def test_what_is_no_list_of_moves(self):
        tree = Tree(plain.lane(4))
        things = [thing for thing in plain.ODD_THINGS if not isinstance(thing, list)]
        for moved in (slid, leapt):
            for thing in [*things, ((0, 1),), {(0, 1)}, {(0, 1): 1}, (0, 1), range(0)]:
                self.refused(NoSlide, {"at": -1}, moved, tree, (0,), thing)

    def test_what_is_no_move(self):
        tree = Tree(plain.lane(4))
        odd = [*plain.ODD_THINGS, [1, 0], (1, 0, 0), (1, 4), (1, -1), (-3, 2), (4, 3), ("1", "0"), (None, 0), (1, None)]
        odd += [(1, [0]), ([1], 0), (1, {}), ({}, 0), (1, False), (True, 0), (True, False), (1, 10**30), (10**30, 1)]
        for moved in (slid, leapt):
            for thing in odd:
                self.refused(NoSlide, {"at": 0}, moved, tree, (1,), [thing])
                self.refused(NoSlide, {"at": 2}, moved, tree, (1,), [(1, 2), (2, 1), thing, (1, 0)])
                self.refused(NoSlide, {"at": 1}, moved, tree, (1,), [(1, 2), thing, thing])

    def test_no_setting_comes_ahead_of_no_slide(self):
        for ways in ([(0, 1)], plain.lane(6), plain.star(60)):
            tree = Tree(ways)
            for thing, at in wrong_settings(tree):
                for call in (slides, leaps_from):
                    self.refused(NoSetting, {"at": at}, call, tree, thing)
                for call in (slid, leapt):
                    for moves in ([], None, [None], [(0, 1)]):
                        self.refused(NoSetting, {"at": at}, call, tree, thing, moves)

    def test_many_moves_of_sixty_rooms(self):
        tree = Tree(plain.lane(60))
        there, back = [(room, room + 1) for room in range(59)], [(room + 1, room) for room in range(58, -1, -1)]
        self.assertEqual(slid(tree, (0,), there), (59,))
        self.assertEqual(slid(tree, (0,), (there + back) * 100), (0,))
        self.refused(NoSlide, {"at": 11800}, slid, tree, (0,), (there + back) * 100 + [(1, 0)])
        self.assertEqual(slides(Tree(plain.star(60)), tuple(range(1, 60))), [])
        self.assertEqual(slides(Tree(plain.star(60)), (59,)), [(59, 0)])
        self.assertEqual(len(leaps_from(Tree(plain.star(60)), (59,))), 59)
        self.assertEqual(leapt(tree, tuple(range(0, 60, 2)), [(58, 59), (56, 57)]), (*range(0, 56, 2), 57, 59))

    def test_slides_and_leaps_of_sixty_rooms_against_a_plain_search(self):
        for ways in plain.great_trees():
            for setting in ((), (0,), (59,), (7, 31), (0, 59)):
                if plain.apart(ways, setting):
                    self.assertEqual(slides(Tree(ways), setting), plain.slides(ways, setting))
                    self.assertEqual(leaps_from(Tree(ways), setting), plain.leaps(ways, setting))


class AllSettings(GuardCase):
    """Point [10], all_settings."""

    def test_all_settings_against_a_plain_search(self):
        for ways in plain.small_trees():
            tree = Tree(ways)
            for many in range(len(tree) + 2):
                self.assertEqual(all_settings(tree, many), plain.settings(ways, many))

    def test_no_guard_and_sixty(self):
        for ways in plain.small_trees() + plain.great_trees():
            self.assertEqual(all_settings(Tree(ways), 0), [()])
        for ways in plain.small_trees():
            self.assertEqual(all_settings(Tree(ways), 60), [])
            self.assertEqual(all_settings(Tree(ways), 61), [])

    def test_as_many_as_most_and_one_more(self):
        for ways in plain.small_trees():
            tree = Tree(ways)
            for many in range(len(tree) + 1):
                greatest = max([len(plain.settings(ways, fewer)) for fewer in range(many + 1)])
                told = plain.settings(ways, many)
                self.assertEqual(all_settings(tree, many, most=greatest), told)
                self.assertEqual(all_settings(tree, many, most=greatest + 1), told)
                self.refused(TooMany, {"many": greatest - 1}, all_settings, tree, many, most=greatest - 1)

    def test_some_lesser_number_with_more_settings_is_enough(self):
        tree = Tree(plain.star(7))
        self.assertEqual([len(all_settings(tree, many)) for many in range(8)], [1, 7, 15, 20, 15, 6, 1, 0])
        for many in (3, 4, 5, 6, 7, 60):
            self.refused(TooMany, {"many": 19}, all_settings, tree, many, most=19)
            self.assertEqual(len(all_settings(tree, many, most=20)), [20, 15, 6, 1, 0, 0][min(many, 8) - 3])
        self.assertEqual(len(all_settings(tree, 2, most=15)), 15)

    def test_most_of_none(self):
        for ways in ([], [(0, 1)], plain.lane(60)):
            for many in (0, 1, 60):
                self.refused(TooMany, {"many": 0}, all_settings, Tree(ways), many, most=0)
            self.assertEqual(all_settings(Tree(ways), 0, most=1), [()])

    def test_most_is_1000_where_it_is_left_out(self):
        # A star of 45 rooms has 44 * 43 / 2 = 946 settings of two guards, one of 46 has 990, one of 47 has 1035.
        self.assertEqual(all_settings(Tree(plain.star(46)), 2), list(itertools.combinations(range(1, 46), 2)))
        self.refused(TooMany, {"many": 1000}, all_settings, Tree(plain.star(47)), 2)
        # Of two guards a lane of 46 rooms has 45 * 44 / 2, and one of 47 has 46 * 45 / 2.
        self.assertEqual(len(all_settings(Tree(plain.lane(46)), 2)), 990)
        self.refused(TooMany, {"many": 1000}, all_settings, Tree(plain.lane(47)), 2)
        # Of three guards a lane of 20 rooms has 18 * 17 * 16 / 6, of four 17 * 16 * 15 * 14 / 24.
        self.assertEqual(len(all_settings(Tree(plain.lane(20)), 3)), 816)
        self.refused(TooMany, {"many": 1000}, all_settings, Tree(plain.lane(20)), 4)
        self.refused(TooMany, {"many": 1000}, all_settings, Tree(plain.lane(20)), 10)

    def test_1000_settings_and_one_more(self):
        ways = [(1, 15), (4, 15), (5, 6), (2, 3), (7, 15), (1, 2), (0, 12), (6, 13), (1, 14), (9, 13), (0, 11)]
        ways += [(3, 10), (1, 8), (4, 12), (6, 15)]
        told = plain.settings(ways, 5)
        self.assertEqual(len(told), 1000)
        self.assertEqual(all_settings(Tree(ways), 5), told)
        self.assertEqual(all_settings(Tree(ways), 6), plain.settings(ways, 6))
        self.refused(TooMany, {"many": 999}, all_settings, Tree(ways), 6, most=999)
        told = plain.settings(plain.lane(17), 4)
        self.assertEqual(len(told), 1001)
        self.refused(TooMany, {"many": 1000}, all_settings, Tree(plain.lane(17)), 4)
        self.assertEqual(all_settings(Tree(plain.lane(17)), 4, most=1001), told)

    def test_sixty_rooms_without_going_through_all_settings(self):
        for ways in plain.great_trees():
            tree = Tree(ways)
            with plain.within(20):
                for many in (2, 3, 10, 29, 30, 31, 59, 60):
                    self.refused(TooMany, {"many": 1000}, all_settings, tree, many)
                    for most in (0, 1, 59, 60, 300, 999):
                        self.refused(TooMany, {"many": most}, all_settings, tree, many, most=most)
                self.assertEqual(all_settings(tree, 1), [(room,) for room in range(60)])
                self.assertEqual(all_settings(tree, 1, most=60), [(room,) for room in range(60)])
                self.refused(TooMany, {"many": 59}, all_settings, tree, 1, most=59)
                # All pairs of sixty rooms, less those at the 59 ways.
                self.assertEqual(len(all_settings(tree, 2, most=1711)), 1711)
                self.refused(TooMany, {"many": 1710}, all_settings, tree, 2, most=1710)

    def test_many_guards_in_a_star_of_few_rooms(self):
        tree = Tree(plain.star(13))
        with plain.within(20):
            self.assertEqual(all_settings(tree, 12), [tuple(range(1, 13))])
            self.assertEqual(all_settings(tree, 13), [])
            self.assertEqual(all_settings(tree, 60), [])
            self.refused(TooMany, {"many": 923}, all_settings, tree, 12, most=923)
            self.assertEqual(all_settings(tree, 11, most=924), list(itertools.combinations(range(1, 13), 11)))


class Reached(GuardCase):
    """Point [10], reached."""

    def test_reached_against_a_plain_search(self):
        for ways in [ways for ways in plain.small_trees() if len(ways) < 7]:
            for setting in plain.settings(ways):
                self.assertEqual(reached(Tree(ways), setting), plain.reached(ways, setting))

    def test_some_settings(self):
        tree = Tree(plain.lane(5))
        self.assertEqual(reached(tree, ()), [()])
        self.assertEqual(reached(tree, (2,)), [(0,), (1,), (2,), (3,), (4,)])
        self.assertEqual(reached(tree, (1, 4)), [(0, 2), (0, 3), (0, 4), (1, 3), (1, 4), (2, 4)])
        self.assertEqual(reached(tree, (0, 2, 4)), [(0, 2, 4)])
        self.assertEqual(reached(Tree(plain.star(5)), (1, 3)), [(1, 3)])
        self.assertEqual(reached(Tree([]), (0,)), [(0,)])

    def test_as_many_as_most_and_one_more(self):
        for ways in [ways for ways in plain.small_trees() if len(ways) < 6]:
            for setting in plain.settings(ways):
                told = plain.reached(ways, setting)
                self.assertEqual(reached(Tree(ways), setting, most=len(told)), told)
                self.assertEqual(reached(Tree(ways), setting, most=len(told) + 1), told)
                few = len(told) - 1
                self.refused(TooMany, {"many": few}, reached, Tree(ways), setting, most=few)

    def test_most_of_none(self):
        self.refused(TooMany, {"many": 0}, reached, Tree([]), (), most=0)
        self.refused(TooMany, {"many": 0}, reached, Tree(plain.lane(60)), (0,), most=0)
        self.assertEqual(reached(Tree([]), (), most=1), [()])

    def test_most_is_1000_where_it_is_left_out(self):
        for lengths, many in (((10, 10, 10), 1000), ((7, 11, 13), 1001)):
            ways, setting = arms(lengths)
            told = reached(Tree(ways), setting, most=1001)
            self.assertEqual(len(told), many)
            if many == 1000:
                self.assertEqual(reached(Tree(ways), setting), told)
            else:
                self.refused(TooMany, {"many": 1000}, reached, Tree(ways), setting)
            self.assertEqual(told, sorted(set(told)))
            self.assertTrue(all(plain.apart(ways, one) and one[:2] == (1, 2) for one in told))

    def test_sixty_rooms_without_going_through_all_settings(self):
        with plain.within(20):
            for ways in plain.great_trees():
                tree = Tree(ways)
                self.assertEqual(reached(tree, (31,)), [(room,) for room in range(60)])
                self.assertEqual(reached(tree, (31,), most=60), [(room,) for room in range(60)])
                self.refused(TooMany, {"many": 59}, reached, tree, (31,), most=59)
                self.assertEqual(reached(tree, ()), [()])
            for setting in (tuple(range(0, 30, 2)), tuple(range(0, 20, 2)), (0, 20, 40)):
                for most in (0, 1, 300, 1000):
                    self.refused(TooMany, {"many": most}, reached, Tree(plain.lane(60)), setting, most=most)
                self.refused(TooMany, {"many": 1000}, reached, Tree(plain.lane(60)), setting)
            self.refused(TooMany, {"many": 1000}, reached, Tree(plain.comb(60)), tuple(range(1, 60, 2)))
            self.refused(TooMany, {"many": 1000}, reached, Tree(plain.comb(60)), (1, 3, 5, 7, 9, 11))

    def test_guards_that_lock_one_another_in_sixty_rooms(self):
        with plain.within(20):
            self.assertEqual(reached(Tree(plain.star(60)), (3, 59)), [(3, 59)])
            outer = tuple(range(1, 60))
            self.assertEqual(reached(Tree(plain.star(60)), outer), [outer])
            self.assertEqual(reached(Tree(plain.lane(59)), tuple(range(0, 59, 2))), [tuple(range(0, 59, 2))])
            self.refused(TooMany, {"many": 100}, reached, Tree(plain.lane(59)), tuple(range(1, 31, 2)), most=100)

    def test_thirty_guards_of_a_lane_of_sixty_rooms(self):
        # One room more than the guards need: the gap stands behind each number of guards.
        told = sorted([(*range(0, 2 * gap, 2), *range(2 * gap + 1, 60, 2)) for gap in range(31)])
        with plain.within(20):
            self.assertEqual(reached(Tree(plain.lane(60)), tuple(range(0, 60, 2))), told)
            self.assertEqual(reached(Tree(plain.lane(60)), tuple(range(1, 60, 2)), most=31), told)
            self.refused(TooMany, {"many": 30}, reached, Tree(plain.lane(60)), tuple(range(1, 60, 2)), most=30)

    def test_no_setting_comes_ahead_of_too_many(self):
        for ways in ([(0, 1)], plain.lane(6), plain.star(60)):
            tree = Tree(ways)
            for thing, at in wrong_settings(tree):
                self.refused(NoSetting, {"at": at}, reached, tree, thing)
                self.refused(NoSetting, {"at": at}, reached, tree, thing, most=0)


if __name__ == "__main__":
    unittest.main()
