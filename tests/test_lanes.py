"""Points [52] and [53]: how often each way must be gone, and slides on lanes that go none oftener."""

import itertools
import random
import unittest

from apartguards.come import come
from apartguards.errors import NoLane
from apartguards.lanes import lane_slides, least, needs
from apartguards.trees import Tree
from tests import greatest, papers, plain
from tests.test_leaps import AlikeCase, alike, great_alike

# Rooms 0 and 5 at the ends of one side, a fork at 3, and a greater one at 1.
FORKS = [(0, 3), (2, 3), (3, 4), (1, 4), (1, 5), (1, 6), (1, 7)]


def drawn_lane(rooms, seed):
    """A lane with its rooms, and its ways, in a drawn order."""
    draw = random.Random(seed)
    names = list(range(rooms))
    draw.shuffle(names)
    ways = [(min(pair), max(pair)) for pair in zip(names, names[1:])]
    draw.shuffle(ways)
    return ways


def lanes():
    return [ways for ways in plain.small_trees() if greatest.is_lane(ways)] + [drawn_lane(7, 1), drawn_lane(9, 2)]


def great_lanes():
    """Lanes of sixty rooms, each with two settings of as many guards."""
    rows = [(ways, one, other) for ways, one, other in great_alike() if greatest.is_lane(ways)]
    for seed in range(6):
        ways = drawn_lane(60, seed)
        for many in (1, 4, 11, 60):
            one, other = papers.drawn_setting(ways, many, seed), papers.drawn_setting(ways, many, seed + 9)
            fewer = min(len(one), len(other))
            rows.append((ways, one[:fewer], other[:fewer]))
    rows.append((plain.lane(60), tuple(range(0, 40, 2)), tuple(range(21, 60, 2))))
    rows.append((plain.lane(59), tuple(range(0, 59, 2)), tuple(range(0, 59, 2))))
    return rows


class Needs(AlikeCase):
    """Point [52]."""

    def hold_needs(self, ways, one, other):
        """Hold what is told against the guards on a side of each way, and the sum against it."""
        told = needs(Tree(ways), one, other)
        self.assertEqual(told, greatest.needs(ways, one, other))
        self.assertEqual({type(thing) for thing in told}, {tuple} if ways else set())
        self.assertEqual([type(many) for _, many in told], [int] * len(ways))
        self.assertEqual(least(Tree(ways), one, other), sum([many for _, many in told]))

    def hold_slides(self, ways, one, other, moves):
        """Hold that slides go each way as often as it needs, or more often by an even number."""
        for (way, many), (same, often) in zip(needs(Tree(ways), one, other), greatest.gone(ways, moves)):
            self.assertEqual(way, same)
            self.assertGreaterEqual(often, many)
            self.assertEqual((often - many) % 2, 0)
        self.assertGreaterEqual(len(moves), least(Tree(ways), one, other))
        self.assertEqual((len(moves) - least(Tree(ways), one, other)) % 2, 0)

    def test_the_guards_on_a_side_of_each_way(self):
        for ways in plain.small_trees():
            for one, other in alike(ways)[:: 1 + len(ways) ** 2 // 8]:
                self.hold_needs(ways, one, other)

    def test_all_slides_are_as_many_or_more_by_an_even_number(self):
        for ways in [*plain.small_trees()[::3], FORKS]:
            settings = plain.settings(ways)
            for one in settings[:: 1 + len(settings) // 12]:
                far = greatest.steps_from(one, settings, greatest.a_slide_apart(ways))
                for other in far:
                    more = far[other] - least(Tree(ways), one, other)
                    self.assertGreaterEqual(more, 0)
                    self.assertEqual(more % 2, 0)

    def test_each_way_is_gone_so_often_or_more_by_an_even_number(self):
        for ways in [*plain.small_trees()[::2], *plain.great_trees(), FORKS]:
            for many, seed in itertools.product((1, 3, 9), range(2)):
                one = papers.drawn_setting(ways, many, seed)
                other = papers.shaken(ways, one, 200, seed)
                self.hold_slides(ways, one, other, come(Tree(ways), one, other)[1])

    def test_some_needs(self):
        tree = Tree([(1, 3), (0, 1), (1, 2)])
        self.assertEqual(needs(tree, (1,), (3,)), [((0, 1), 0), ((1, 2), 0), ((1, 3), 1)])
        self.assertEqual(needs(tree, (0, 2), (2, 3)), [((0, 1), 1), ((1, 2), 0), ((1, 3), 1)])
        self.assertEqual(least(tree, (0, 2), (2, 3)), 2)
        tree = Tree(plain.lane(5))
        self.assertEqual(needs(tree, (0, 2), (2, 4)), [((0, 1), 1), ((1, 2), 1), ((2, 3), 1), ((3, 4), 1)])
        self.assertEqual(needs(tree, (0, 3), (1, 4)), [((0, 1), 1), ((1, 2), 0), ((2, 3), 0), ((3, 4), 1)])
        # Locked guards need ways, too, though they never move: no slides are fewer than none at all.
        self.assertEqual(least(Tree(plain.star(5)), (1, 2), (3, 4)), 4)

    def test_one_room_no_guard_and_the_same_setting_twice(self):
        for setting in ((), (0,)):
            self.assertEqual(needs(Tree([]), setting, setting), [])
            self.assertEqual(least(Tree([]), setting, setting), 0)
        for ways in [*plain.small_trees(), *plain.great_trees()]:
            for many in (0, 1, 60):
                setting = papers.drawn_setting(ways, many, many)
                self.assertEqual(needs(Tree(ways), setting, setting), [(way, 0) for way in sorted(ways)])
                self.assertEqual(least(Tree(ways), setting, setting), 0)

    def test_sixty_rooms(self):
        with plain.within(60):
            for ways, one, other in great_alike():
                self.hold_needs(ways, one, other)
            self.assertEqual(least(Tree(plain.lane(60)), tuple(range(0, 60, 2)), tuple(range(1, 60, 2))), 30)
            self.assertEqual(least(Tree(plain.lane(60)), tuple(range(0, 30, 2)), tuple(range(31, 60, 2))), 15 * 31)

    def test_what_is_refused(self):
        self.alike_refused(needs)
        self.alike_refused(least)


class LaneSlides(AlikeCase):
    """Point [53]."""

    def hold(self, ways, one, other):
        """Do the slides one by one, and hold how many there are against the sum of what the ways need."""
        told = lane_slides(Tree(ways), one, other)
        self.assertIs(type(told), list)
        self.assertEqual(papers.slid(ways, one, told), (other, None), (ways, one, other))
        self.assertEqual(len(told), sum([many for _, many in greatest.needs(ways, one, other)]))
        self.assertEqual(greatest.gone(ways, told), greatest.needs(ways, one, other))
        self.assertEqual(len(told), least(Tree(ways), one, other))
        return len(told)

    def test_each_two_settings_of_lanes(self):
        for ways in lanes():
            for one, other in alike(ways):
                self.hold(ways, one, other)

    def test_as_few_as_can_be_out_of_all_rows_of_slides(self):
        for ways in lanes():
            settings = plain.settings(ways)
            for one in settings:
                far = greatest.steps_from(one, settings, greatest.a_slide_apart(ways))
                # On a lane there always are such.
                self.assertEqual(sorted(far), sorted([other for other in settings if len(other) == len(one)]))
                for other in far:
                    self.assertEqual(self.hold(ways, one, other), far[other])

    def test_some_slides(self):
        self.assertEqual(lane_slides(Tree([(0, 1)]), (0,), (1,)), [(0, 1)])
        self.assertEqual(lane_slides(Tree(plain.lane(4)), (0, 2), (1, 3)), [(2, 3), (0, 1)])
        self.assertEqual(lane_slides(Tree(plain.lane(4)), (1, 3), (0, 2)), [(1, 0), (3, 2)])
        self.assertEqual(lane_slides(Tree([(0, 2), (0, 1)]), (1,), (2,)), [(1, 0), (0, 2)])

    def test_one_room_no_guard_and_the_same_setting_twice(self):
        for setting in ((), (0,)):
            self.assertEqual(lane_slides(Tree([]), setting, setting), [])
        for rooms in (1, 2, 3, 59, 60):
            for many in (0, 1, 60):
                setting = papers.drawn_setting(plain.lane(rooms), many, many)
                self.assertEqual(lane_slides(Tree(plain.lane(rooms)), setting, setting), [])

    def test_sixty_rooms(self):
        with plain.within(60):
            for ways, one, other in great_lanes():
                self.hold(ways, one, other)
                self.hold(ways, other, one)
            self.assertEqual(self.hold(plain.lane(60), tuple(range(0, 30, 2)), tuple(range(31, 60, 2))), 15 * 31)

    def test_what_is_told_is_the_same_again(self):
        for ways, one, other in great_lanes():
            self.assertEqual(lane_slides(Tree(ways[::-1]), one, other), lane_slides(Tree(ways), one, other))

    def test_trees_that_are_no_lane(self):
        for ways in [*plain.small_trees(), *plain.great_trees(), FORKS]:
            room = greatest.least_fork(ways)
            for setting in ((), (0,)):
                if room is None:
                    self.assertEqual(lane_slides(Tree(ways), setting, setting), [])
                else:
                    self.refused(NoLane, {"room": room}, lane_slides, Tree(ways), setting, setting)
        self.refused(NoLane, {"room": 1}, lane_slides, Tree(FORKS), (0, 1), (3, 6))
        self.refused(NoLane, {"room": 0}, lane_slides, Tree(plain.star(60)), (1,), (0,))

    def test_what_is_refused_ahead(self):
        # Of lanes, and of stars, which are none: no setting, and unlike numbers, come first.
        self.alike_refused(lane_slides)


if __name__ == "__main__":
    unittest.main()
