"""Points [60] and [61]: how many settings there are, and how many come of one."""

import unittest
from math import comb

from apartguards.counts import how_many, how_many_come, how_many_free
from apartguards.settings import all_settings, reached
from apartguards.trees import Tree
from tests import greatest, papers, plain
from tests.case import GuardCase

# Far more guards than any tree has rooms.
FAR = (61, 62, 120, 1000, 2**31, 2**64, 10**30, 10**5000)

# Guards in 1 and 2 are a lock; between them lie three lanes of nineteen rooms each, from 3, 22 and 41 on.
HUB = [(0, 1), (0, 2)]
for first in (3, 22, 41):
    HUB += [(0, first)] + [(room, room + 1) for room in range(first, first + 18)]


def spider(arms):
    """Room 0 with arms of two rooms each."""
    return [(0, room) if room % 2 else (room - 1, room) for room in range(1, 2 * arms + 1)]


def broom(arms):
    """Room 0 with rooms beside it, each with two more behind it."""
    ways = [(0, room) for room in range(1, arms + 1)]
    return ways + [(room, room + more * arms) for more in (1, 2) for room in range(1, arms + 1)]


def of_spider(arms, many):
    """With no guard in the middle each arm has none, or one in either room; with one there, one at its end."""
    return comb(arms, many) * 2**many + (comb(arms, many - 1) if many else 0)


def free_of_broom(arms, many):
    """An arm has no two guards then; with one in the middle, not each arm has one."""
    with_middle = comb(arms, many - 1) * 2 ** (many - 1) if many else 0
    return comb(arms, many) * 3**many + with_middle - (2**arms if many == arms + 1 else 0)


class HowMany(GuardCase):
    """Point [60]."""

    def hold(self, call, ways, told):
        """Hold the numbers of settings, and that there are none of more guards."""
        tree = Tree(ways)
        self.assertEqual([call(tree, many) for many in range(len(told))], told, ways)
        for many in FAR:
            self.assertEqual(call(tree, many), 0)
        self.assertEqual({type(call(tree, many)) for many in (0, 1, 2, 61)}, {int})

    def test_all_settings_of_small_trees(self):
        for ways in plain.small_trees():
            self.hold(how_many, ways, greatest.numbers(ways, plain.settings(ways)))

    def test_settings_without_a_lock_of_small_trees(self):
        for ways in [*plain.small_trees(), spider(4), broom(3), plain.star(5) + [(4, 5), (5, 6), (5, 7)]]:
            free = [one for one in plain.settings(ways) if not papers.lock(ways, one)]
            self.hold(how_many_free, ways, greatest.numbers(ways, free))

    def test_one_room(self):
        self.hold(how_many, [], [1, 1, 0, 0])
        self.hold(how_many_free, [], [1, 0, 0, 0])

    def test_less_than_none(self):
        # Nobody is refused for such a number, and there are no such settings.
        for many in (-1, -2, -60):
            self.assertEqual((how_many(Tree([(0, 1)]), many), how_many_free(Tree([(0, 1)]), many)), (0, 0))

    def test_two_rooms(self):
        self.hold(how_many, [(0, 1)], [1, 2, 0])
        self.hold(how_many_free, [(0, 1)], [1, 2, 0])

    def test_lanes(self):
        for rooms in (3, 4, 20, 31, 58, 59, 60):
            told = [greatest.of_lane(rooms, many) for many in range(63)]
            self.hold(how_many, plain.lane(rooms), told)
            # In a lane only guards in each second room, both ends among them, are a lock.
            if rooms % 2:
                told[rooms // 2 + 1] = 0
            self.hold(how_many_free, plain.lane(rooms), told)

    def test_stars(self):
        for rooms in (4, 17, 59, 60):
            self.hold(how_many, plain.star(rooms), [greatest.of_star(rooms, many) for many in range(63)])
            # Two guards in leaves lock one another.
            self.hold(how_many_free, plain.star(rooms), [1, rooms] + [0] * 61)
        self.assertEqual(how_many(Tree(plain.star(60)), 30), 59132290782430712)

    def test_combs(self):
        for rooms in (4, 20, 58, 60):
            told = [greatest.of_comb(rooms // 2, many) for many in range(63)]
            self.hold(how_many, plain.comb(rooms), told)
            # A guard in the lane can always go into its tooth: so nobody is locked with him.
            self.hold(how_many_free, plain.comb(rooms), told)

    def test_middles_with_many_arms(self):
        for arms in (2, 5, 29):
            told = [of_spider(arms, many) for many in range(63)]
            self.hold(how_many, spider(arms), told)
            # Guards at the ends of all arms and one in the middle are a lock.
            told[arms + 1] -= 1
            self.hold(how_many_free, spider(arms), told)
        for arms in (2, 5, 19):
            self.hold(how_many_free, broom(arms), [free_of_broom(arms, many) for many in range(63)])

    def test_as_many_as_there_are_in_lists(self):
        for ways in plain.great_trees():
            for many in range(4):
                self.assertEqual(how_many(Tree(ways), many), len(all_settings(Tree(ways), many, most=10**5)))

    def test_sixty_rooms_soon(self):
        with plain.within(60):
            for ways in plain.great_trees():
                told = [how_many(Tree(ways), many) for many in range(61)]
                free = [how_many_free(Tree(ways), many) for many in range(61)]
                self.assertEqual([one for one, other in zip(told, free) if one < other], [])
                self.assertEqual(told[:2], [1, 60])
                self.assertEqual(free[:2], [1, 60])

    def test_what_is_told_is_the_same_again(self):
        for ways in plain.great_trees():
            for many in (3, 12, 25):
                self.assertEqual(how_many(Tree(ways[::-1]), many), how_many(Tree(ways), many))
                self.assertEqual(how_many_free(Tree(ways[::-1]), many), how_many_free(Tree(ways), many))


class HowManyCome(GuardCase):
    """Point [61]."""

    def hold(self, ways, setting, many):
        told = how_many_come(Tree(ways), setting)
        self.assertEqual((told, type(told)), (many, int), (ways, setting))

    def test_all_that_come_of_settings_of_small_trees(self):
        for ways in [*plain.small_trees(), broom(3)]:
            todo = set(plain.settings(ways))
            while todo:
                lot = reached(Tree(ways), todo.pop())
                todo -= set(lot)
                for setting in lot:
                    self.hold(ways, setting, len(lot))

    def test_a_plain_search(self):
        for ways in plain.small_trees()[::4]:
            for setting in plain.settings(ways)[::5]:
                self.hold(ways, setting, len(plain.reached(ways, setting)))

    def test_one_room_and_no_guard(self):
        self.hold([], (), 1)
        self.hold([], (0,), 1)
        for ways in [*plain.small_trees(), *plain.great_trees()]:
            self.hold(ways, (), 1)

    def test_some_numbers(self):
        self.hold(plain.star(6), (1, 2), 1)
        self.hold(plain.star(6), (1,), 6)
        self.hold(plain.lane(5), (0, 2, 4), 1)
        self.hold(plain.lane(6), (0, 2, 4), 4)
        self.hold([(0, 1), (0, 2), (0, 3), (3, 4), (4, 5)], (1, 2, 4), 3)

    def test_sixty_rooms(self):
        with plain.within(60):
            for many in range(31):
                self.hold(plain.lane(60), tuple(range(0, 2 * many, 2)), greatest.of_lane(60, many))
                self.hold(plain.comb(60), tuple(range(1, 2 * many, 2)), greatest.of_comb(30, many))
            self.hold(plain.lane(59), tuple(range(0, 59, 2)), 1)
            self.hold(plain.star(60), tuple(range(1, 60)), 1)
            self.hold(plain.star(60), (17,), 60)
            self.hold(spider(29), tuple(range(2, 59, 2)), of_spider(29, 29))
            self.hold(spider(29), (0, *range(2, 59, 2)), 1)
            self.hold(broom(19), (0, *range(20, 38)), free_of_broom(19, 19))

    def test_the_product_over_the_pieces(self):
        self.hold(HUB, (1, 2), 1)
        self.hold(HUB, (1, 2, 3), 19)
        for one, two, three in ((1, 1, 1), (4, 5, 6), (9, 0, 2), (9, 9, 9)):
            rows = [range(4, 4 + 2 * one, 2), range(23, 23 + 2 * two, 2), range(42, 42 + 2 * three, 2)]
            product = greatest.of_lane(19, one) * greatest.of_lane(19, two) * greatest.of_lane(19, three)
            self.hold(HUB, (1, 2, *[room for row in rows for room in row]), product)
        # Guards in each second room of a lane are locked with those two.
        self.hold(HUB, (1, 2, *range(3, 22, 2), 30, 41), 19 * 19)

    def test_as_many_as_are_reached(self):
        for ways in plain.great_trees():
            for many in (1, 2):
                setting = papers.drawn_setting(ways, many, many)
                self.hold(ways, setting, len(reached(Tree(ways), setting, most=2000)))

    def test_what_is_no_setting(self):
        self.settings_refused(how_many_come)


if __name__ == "__main__":
    unittest.main()
