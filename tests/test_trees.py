"""Points [5] and [6]: rooms, ways, trees, and what is told of their rooms."""

import itertools
import random
import unittest
from unittest import mock

from apartguards.errors import NoRoom, NoTree
from apartguards.trees import Tree
from tests import plain
from tests.case import GuardCase


class Trees(GuardCase):
    """Point [5]."""

    def test_a_tree_tells_its_ways_and_how_many_rooms_it_has(self):
        for ways in plain.small_trees() + plain.great_trees():
            tree = Tree(ways)
            self.assertEqual(tree.ways(), ways)
            self.assertIs(type(tree.ways()), list)
            self.assertEqual(len(tree), len(ways) + 1)

    def test_the_ways_are_told_in_the_order_in_which_they_were_told(self):
        self.assertEqual(Tree([(2, 3), (0, 3), (0, 1)]).ways(), [(2, 3), (0, 3), (0, 1)])

    def test_one_room_and_two(self):
        self.assertEqual((Tree([]).ways(), len(Tree([]))), ([], 1))
        self.assertEqual((Tree([(0, 1)]).ways(), len(Tree([(0, 1)]))), ([(0, 1)], 2))

    def test_59_ways_make_a_tree_and_60_are_too_many(self):
        for shape in (plain.lane, plain.star, plain.comb):
            self.assertEqual(len(Tree(shape(60))), 60)
            self.refused(NoTree, {"at": -1}, Tree, shape(61))
            self.refused(NoTree, {"at": -1}, Tree, shape(62))

    def test_what_is_no_list_is_refused_with_minus_one(self):
        lists = [thing for thing in plain.ODD_THINGS if not isinstance(thing, list)]
        for thing in [*lists, ((0, 1),), {(0, 1): 1}, {(0, 1)}, iter([(0, 1)]), range(0), Tree([])]:
            self.refused(NoTree, {"at": -1}, Tree, thing)

    def test_a_longer_list_is_refused_ahead_of_what_stands_in_it(self):
        self.refused(NoTree, {"at": -1}, Tree, [None] * 60)
        self.refused(NoTree, {"at": 0}, Tree, [None] * 59)
        self.refused(NoTree, {"at": 58}, Tree, plain.lane(59) + [None])

    def test_what_is_no_way_is_refused_wherever_it_stands(self):
        odd = [*plain.ODD_THINGS, (0, None), (None, 1), (0, True), (False, 1), ("0", "1"), (0, [1]), ([0], 1)]
        odd += [({}, 1), (0, {}), (0, 0), (1, 0), (-1, 0), (-2, -1), (0, 5), (4, 5), (0, 10**30), (0, 1, 2), [0, 1]]
        for thing, at in itertools.product(odd, range(4)):
            ways = plain.lane(5)
            ways[at] = thing
            self.refused(NoTree, {"at": at}, Tree, ways)

    def test_the_greatest_room_has_the_number_of_the_ways(self):
        self.assertEqual(len(Tree([(0, 2), (1, 2)])), 3)
        self.refused(NoTree, {"at": 1}, Tree, [(0, 2), (1, 3)])
        self.refused(NoTree, {"at": 0}, Tree, [(0, 2)])

    def test_a_way_that_ties_what_hangs_together_is_refused(self):
        self.refused(NoTree, {"at": 1}, Tree, [(0, 1), (0, 1)])
        self.refused(NoTree, {"at": 1}, Tree, [(0, 1), (1, 0)])
        self.refused(NoTree, {"at": 2}, Tree, [(0, 1), (1, 2), (0, 2)])
        self.refused(NoTree, {"at": 2}, Tree, [(0, 1), (1, 2), (0, 2), (0, 4)])
        self.refused(NoTree, {"at": 4}, Tree, [(0, 1), (2, 3), (1, 2), (4, 5), (0, 3)])
        self.refused(NoTree, {"at": 58}, Tree, plain.lane(59) + [(0, 58)])

    def test_the_first_wrong_thing_is_told(self):
        self.refused(NoTree, {"at": 1}, Tree, [(0, 1), None, (0, 1), (9, 9)])
        self.refused(NoTree, {"at": 1}, Tree, [(0, 1), (0, 1), None])
        self.refused(NoTree, {"at": 0}, Tree, [(1, 0), (0, 1)])

    def test_every_pair_of_ways_against_a_plain_search(self):
        ends = range(-1, 5)
        for one, other in itertools.product(itertools.product(ends, ends), repeat=2):
            self.hold_ways([one, other])

    def test_drawn_ways_against_a_plain_search(self):
        draw = random.Random(5)
        for _ in range(1500):
            many = draw.randrange(3, 9)
            self.hold_ways([tuple(sorted(draw.sample(range(many + 1), 2))) for _ in range(many)])

    def hold_ways(self, ways):
        at = plain.refusal_of_ways(ways)
        if at is None:
            self.assertEqual(Tree(ways).ways(), ways)
        else:
            self.refused(NoTree, {"at": at}, Tree, ways)

    def test_trees_of_the_same_ways_are_equal_in_whatever_order(self):
        draw = random.Random(7)
        for ways in plain.small_trees() + plain.great_trees():
            turned = draw.sample(ways, len(ways))
            self.assertTrue(Tree(ways) == Tree(turned))
            self.assertFalse(Tree(ways) != Tree(turned))
            self.assertEqual(Tree(turned).ways(), turned)

    def test_trees_of_other_ways_are_not_equal(self):
        for rooms in (3, 4, 5):
            for one, other in itertools.combinations(plain.every_tree(rooms), 2):
                self.assertFalse(Tree(one) == Tree(other))
                self.assertTrue(Tree(one) != Tree(other))
        self.assertFalse(Tree([]) == Tree([(0, 1)]))
        self.assertFalse(Tree(plain.lane(60)) == Tree(plain.comb(60)))

    def test_a_tree_is_equal_to_nothing_of_another_kind(self):
        for ways in ([], [(0, 1)], plain.lane(4)):
            tree = Tree(ways)
            for thing in (*plain.ODD_THINGS, ways, tuple(ways), len(tree), tree.ways, mock.ANY):
                self.assertFalse(tree == thing)
                self.assertTrue(tree != thing)


class Rooms(GuardCase):
    """Point [6]."""

    def test_beside_tells_the_rooms_at_the_other_ends_rising(self):
        self.assertEqual(Tree([]).beside(0), [])
        self.assertEqual(Tree([(2, 3), (1, 2), (0, 2)]).beside(2), [0, 1, 3])
        for ways in plain.small_trees() + plain.great_trees():
            tree = Tree(ways)
            for room in range(len(tree)):
                self.assertEqual(tree.beside(room), plain.near(ways, room))

    def test_branch_tells_what_hangs_together_without_the_other_room(self):
        tree = Tree(plain.lane(4))
        self.assertEqual((tree.branch(1, away=2), tree.branch(2, away=1)), ([0, 1], [2, 3]))
        for ways in plain.small_trees() + [plain.comb(60), plain.drawn(60, 3)]:
            tree = Tree(ways)
            for one, other in ways:
                self.assertEqual(tree.branch(one, away=other), plain.hanging(ways, one, [other]))
                self.assertEqual(tree.branch(other, away=one), plain.hanging(ways, other, [one]))

    def test_between_tells_the_rooms_that_one_goes_through(self):
        tree = Tree([(0, 3), (1, 3), (1, 2)])
        self.assertEqual(tree.between(2, 0), [2, 1, 3, 0])
        self.assertEqual(tree.between(0, 2), [0, 3, 1, 2])
        self.assertEqual(tree.between(0, 1), [0, 3, 1])
        self.assertEqual(tree.between(0, 3), [0, 3])
        self.assertEqual(tree.between(3, 3), [3])
        for ways in plain.small_trees():
            tree = Tree(ways)
            for one, other in itertools.product(range(len(tree)), repeat=2):
                self.assertEqual([tree.between(one, other)], plain.paths(ways, one, other))

    def test_between_of_sixty_rooms(self):
        self.assertEqual(Tree(plain.lane(60)).between(0, 59), list(range(60)))
        self.assertEqual(Tree(plain.lane(60)).between(59, 0), list(range(59, -1, -1)))
        self.assertEqual(Tree(plain.star(60)).between(59, 1), [59, 0, 1])
        self.assertEqual(Tree(plain.comb(60)).between(1, 59), [1, *range(0, 59, 2), 59])
        ways = plain.drawn(60, 1)
        for one, other in [(0, 59), (59, 0), (17, 42), (5, 5)]:
            self.assertEqual([Tree(ways).between(one, other)], plain.paths(ways, one, other))

    def test_pieces_of_every_set_of_rooms(self):
        for ways in [ways for ways in plain.small_trees() if len(ways) < 7]:
            tree, rooms = Tree(ways), range(len(ways) + 1)
            for many in range(len(tree) + 1):
                for without in itertools.combinations(rooms, many):
                    told = plain.pieces(ways, without)
                    self.assertEqual(tree.pieces(without), told)
                    self.assertEqual(tree.pieces(list(without[::-1])), told)

    def test_pieces_of_some_rooms(self):
        tree = Tree([(0, 4), (4, 5), (2, 5), (1, 2), (3, 5)])
        self.assertEqual(tree.pieces([]), [[0, 1, 2, 3, 4, 5]])
        self.assertEqual(tree.pieces(()), [[0, 1, 2, 3, 4, 5]])
        self.assertEqual(tree.pieces([5]), [[0, 4], [1, 2], [3]])
        self.assertEqual(tree.pieces((2,)), [[0, 3, 4, 5], [1]])
        self.assertEqual(tree.pieces([5, 2, 4]), [[0], [1], [3]])
        self.assertEqual(tree.pieces([5, 4, 3, 2, 1, 0]), [])
        self.assertEqual(Tree([]).pieces([]), [[0]])
        self.assertEqual(Tree([]).pieces([0]), [])

    def test_pieces_without_a_room_that_is_told_several_times(self):
        tree = Tree(plain.lane(5))
        self.assertEqual(tree.pieces([2, 2]), [[0, 1], [3, 4]])
        self.assertEqual(tree.pieces((3, 1, 3, 1, 1)), [[0], [2], [4]])
        self.assertEqual(tree.pieces([2] * 100000), [[0, 1], [3, 4]])

    def test_pieces_of_sixty_rooms(self):
        self.assertEqual(Tree(plain.star(60)).pieces([0]), [[room] for room in range(1, 60)])
        self.assertEqual(Tree(plain.comb(60)).pieces(list(range(0, 60, 2))), [[room] for room in range(1, 60, 2)])
        for ways in plain.great_trees():
            for without in ([], [59], [0, 30], list(range(0, 60, 7)), list(range(60))):
                self.assertEqual(Tree(ways).pieces(without), plain.pieces(ways, without))

    def test_with_room_tells_the_tree_with_one_room_more(self):
        for ways in plain.small_trees():
            tree = Tree(ways)
            for room in range(len(tree)):
                more = tree.with_room(room)
                self.assertIs(type(more), Tree)
                self.assertEqual(more.ways(), [*ways, (room, len(ways) + 1)])
                self.assertEqual(len(more), len(ways) + 2)
                self.assertEqual(more.beside(len(ways) + 1), [room])
                self.assertTrue(more == Tree([*ways, (room, len(ways) + 1)]))
            self.assertEqual((tree.ways(), len(tree)), (ways, len(ways) + 1))

    def test_with_room_of_59_rooms_and_of_sixty(self):
        for shape in (plain.lane, plain.star, plain.comb):
            self.assertEqual(len(Tree(shape(59)).with_room(58)), 60)
            tree = Tree(shape(60))
            for room in (0, 30, 59):
                self.refused(NoTree, {"at": -1}, tree.with_room, room)
            self.assertEqual((tree.ways(), len(tree)), (shape(60), 60))

    def test_with_room_refuses_no_room_ahead_of_sixty_rooms(self):
        for rooms in (1, 2, 59, 60):
            tree = Tree(plain.lane(rooms))
            for thing in (*plain.ODD_THINGS, rooms):
                self.refused(NoRoom, {"room": thing}, tree.with_room, thing)
            self.assertEqual((tree.ways(), len(tree)), (plain.lane(rooms), rooms))

    def test_no_room_is_the_first_thing_that_is_none(self):
        for ways in ([], [(0, 1)], plain.lane(60)):
            tree, wrong = Tree(ways), [-5]
            for thing in (*plain.ODD_THINGS, len(ways) + 1):
                self.refused(NoRoom, {"room": thing}, tree.beside, thing)
                for other in (0, thing, wrong):
                    self.refused(NoRoom, {"room": thing}, tree.branch, thing, away=other)
                    self.refused(NoRoom, {"room": thing}, tree.between, thing, other)
                self.refused(NoRoom, {"room": thing}, tree.branch, 0, away=thing)
                self.refused(NoRoom, {"room": thing}, tree.between, 0, thing)
                for without in ([thing], (thing,), [0, thing], [0, 0, thing, wrong], (thing, 0, wrong)):
                    self.refused(NoRoom, {"room": thing}, tree.pieces, without)

    def test_no_room_by_names_tells_the_first_parameter_first(self):
        tree = Tree(plain.lane(3))
        self.refused(NoRoom, {"room": "x"}, tree.branch, away="y", room="x")
        self.refused(NoRoom, {"room": "x"}, tree.between, other="y", one="x")

    def test_the_very_thing_that_was_handed_in_is_told(self):
        tree, thing = Tree(plain.lane(3)), [{"a": []}]
        for call in (
            lambda: tree.beside(thing),
            lambda: tree.branch(1, away=thing),
            lambda: tree.between(1, thing),
            lambda: tree.pieces([1, thing]),
            lambda: tree.with_room(thing),
        ):
            with self.assertRaises(NoRoom) as caught:
                call()
            self.assertIs(caught.exception.room, thing)
            self.assertEqual(thing, [{"a": []}])

    def test_branch_refuses_another_room_that_is_not_beside(self):
        self.refused(NoRoom, {"room": 0}, Tree([]).branch, 0, away=0)
        for ways in plain.small_trees():
            tree = Tree(ways)
            for room, away in itertools.product(range(len(tree)), repeat=2):
                if away not in plain.near(ways, room):
                    self.refused(NoRoom, {"room": away}, tree.branch, room, away=away)

    def test_pieces_refuses_what_is_no_list_and_no_tuple(self):
        tree = Tree(plain.lane(3))
        for thing in (None, "0", "", True, 3, {}, {0: 1}, {0}, range(2), -1):
            self.refused(NoRoom, {"room": thing}, tree.pieces, thing)


if __name__ == "__main__":
    unittest.main()
