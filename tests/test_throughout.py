"""Points [2] and [3]: what holds of everything that is handed in, told and refused."""

import copy
import unittest

from apartguards.come import check_come, come, key
from apartguards.counts import how_many, how_many_come, how_many_free
from apartguards.errors import GuardError, Locked, NoLane, NoPaper, NoRoom, NoSetting, NoSlide, NoTree, TooMany, Unlike
from apartguards.freeing import check_out, fewest_out
from apartguards.lanes import lane_slides, least, needs
from apartguards.leaps import check_leaps, leaps
from apartguards.locks import branch_lock, branch_locked, check_lock, check_peel, freed, lock, peel
from apartguards.most import about, always, check_about, check_most, greatest_many, most, never
from apartguards.settings import all_settings, check_setting, leaps_from, leapt, reached, slid, slides
from apartguards.trees import Tree
from tests import plain
from tests.case import GuardCase

WAYS = [(1, 4), (0, 1), (3, 4), (1, 2), (4, 5)]


def told_of(tree):
    """What a tree of these ways tells, and what is told of it."""
    return [
        tree.ways(),
        tree.beside(1),
        tree.branch(1, away=4),
        tree.between(0, 5),
        tree.pieces([1]),
        tree.with_room(2).ways(),
        slides(tree, (0, 4)),
        leaps_from(tree, (0, 4)),
        slid(tree, (0, 4), [(4, 3)]),
        leapt(tree, (0, 4), [(4, 2)]),
        all_settings(tree, 2),
        reached(tree, (0, 4)),
        lock(tree, (0, 2, 4)),
        peel(tree, (0, 2, 4)),
        branch_lock(tree, (0, 3, 5), 4, away=1),
        branch_locked(tree, (0, 3, 5), 3, away=4),
        freed(tree, (0, 3, 5), 0),
        key(tree, (0, 2, 4)),
        come(tree, (0, 4), (2, 3)),
        come(tree, (0, 2), (0, 4)),
        come(tree, (0, 2), (0, 2, 3)),
        fewest_out(tree, (0, 2, 4), 0),
        fewest_out(tree, (0, 2, 4), 4),
        leaps(tree, (0, 4), (2, 3)),
        needs(tree, (0, 4), (2, 3)),
        least(tree, (0, 4), (2, 3)),
        lane_slides(Tree(plain.lane(4)), (0, 2), (1, 3)),
        how_many(tree, 2),
        how_many_free(tree, 2),
        how_many_come(tree, (0, 4)),
        most(tree),
        [about(tree, room) for room in range(len(tree))],
        always(tree),
        never(tree),
        greatest_many(tree),
    ]


def spoil(told):
    """Change each list that is told, and each list within it, as an asker may."""
    for inside in told:
        if isinstance(inside, (list, tuple)):
            spoil(inside)
    if isinstance(told, list):
        told.append("spoilt")
        told.reverse()


def lists_in(told):
    """All lists that are told, those within others, too."""
    found = [told] if isinstance(told, list) else []
    if isinstance(told, (list, tuple)):
        found += [one for inside in told for one in lists_in(inside)]
    return found


class WhatIsHandedIn(GuardCase):
    """Point [2]."""

    def test_true_and_false_are_no_whole_numbers(self):
        tree = Tree([(0, 1), (1, 2)])
        for truth in (True, False):
            self.refused(NoTree, {"at": 0}, Tree, [(truth, 1)])
            self.refused(NoTree, {"at": 0}, Tree, [(0, truth)])
            self.refused(NoRoom, {"room": truth}, tree.beside, truth)
            self.refused(NoRoom, {"room": truth}, tree.branch, truth, away=1)
            self.refused(NoRoom, {"room": truth}, tree.branch, 0, away=truth)
            self.refused(NoRoom, {"room": truth}, tree.between, truth, 0)
            self.refused(NoRoom, {"room": truth}, tree.between, 0, truth)
            self.refused(NoRoom, {"room": truth}, tree.pieces, [truth])
            self.refused(NoRoom, {"room": truth}, tree.with_room, truth)
            for call in (check_setting, slides, leaps_from, reached, lock, peel, key, how_many_come):
                self.refused(NoSetting, {"at": 0}, call, tree, (truth,))
            for call in (branch_lock, branch_locked):
                self.refused(NoRoom, {"room": truth}, call, tree, (0,), truth, away=1)
                self.refused(NoRoom, {"room": truth}, call, tree, (0,), 0, away=truth)
            for call in (freed, fewest_out):
                self.refused(NoRoom, {"room": truth}, call, tree, (0,), truth)
            self.refused(NoRoom, {"room": truth}, check_out, tree, (0,), truth, None)
            self.refused(NoPaper, {"at": 0}, check_lock, tree, (0, 2), (truth,))
            self.refused(NoPaper, {"at": 0}, check_peel, tree, (0,), [(truth, 1)])
            self.refused(NoPaper, {"at": 0}, check_peel, tree, (0,), [(0, truth)])
            self.refused(NoPaper, {"at": 0}, check_come, tree, (0,), (1,), ("walk", [(0, truth)]))
            self.refused(NoPaper, {"at": -1}, check_come, tree, (0, 2), (0, 2), ("lock", truth, (0, 2)))
            self.refused(NoPaper, {"at": 0}, check_come, tree, (0,), (), ("number", (), [truth, 1, 2]))
            self.refused(NoPaper, {"at": 0}, check_out, tree, (0, 2), 2, ((truth,), [[(0,)]]))
            self.refused(NoPaper, {"at": 2}, check_out, tree, (0, 2), 2, ((0,), [[(truth,)]]))
            for call in (leaps, needs, least, lane_slides):
                self.refused(NoSetting, {"at": 0}, call, tree, (truth,), (0,))
                self.refused(NoSetting, {"at": 0}, call, tree, (0,), (truth,))
            self.refused(NoPaper, {"at": 0}, check_leaps, tree, (0,), (1,), [(0, truth)])
            self.refused(NoPaper, {"at": 0}, check_leaps, tree, (1,), (0,), [(truth, 0)])
            self.refused(NoPaper, {"at": -1}, check_most, tree, ((truth,), []))
            self.refused(NoPaper, {"at": 0}, check_most, tree, ((0, 2), [(truth, 2)]))
            self.refused(NoRoom, {"room": truth}, about, tree, truth)
            self.refused(NoRoom, {"room": truth}, check_about, tree, truth, ("always", (0, 2), [(1, 2)]))
            self.refused(NoPaper, {"at": 1}, check_about, tree, 1, ("never", truth, (0, 2), [(1, 2)]))
            self.refused(NoPaper, {"at": 2}, check_about, tree, 0, ("always", (0, 2), [(truth, 2)]))
            for call in (slid, leapt):
                self.refused(NoSlide, {"at": 0}, call, tree, (0,), [(0, truth)])
                self.refused(NoSlide, {"at": 0}, call, tree, (1,), [(truth, 0)])

    def test_what_is_done_to_the_ways_behind_the_call_changes_nothing(self):
        ways = list(WAYS)
        tree = Tree(ways)
        told = told_of(tree)
        ways.reverse()
        ways.append((0, 6))
        ways[0] = None
        self.assertEqual(told_of(tree), told)
        self.assertEqual((tree.ways(), len(tree)), (WAYS, 6))
        self.assertTrue(tree == Tree(list(WAYS)))

    def test_nothing_that_is_handed_in_is_changed(self):
        ways, without, slide_moves, leap_moves = list(WAYS), [4, 1, 4], [(4, 3), (3, 4)], [(4, 2), (2, 4)]
        tree = Tree(ways)
        tree.pieces(without)
        tree.with_room(0)
        slid(tree, (0, 4), slide_moves)
        leapt(tree, (0, 4), leap_moves)
        told_of(tree)
        steps, moves, piece, bars = [(0, 1)], [(0, 1), (1, 2)], [3, 4, 5], [[(2,)]]
        check_peel(tree, (0,), steps)
        check_come(tree, (0,), (2,), ("walk", moves))
        check_come(tree, (0, 2), (0, 2, 3), ("number", (2, 0), piece))
        check_out(tree, (0, 2, 4), 0, ((2,), bars))
        self.assertEqual((steps, moves, piece, bars), ([(0, 1)], [(0, 1), (1, 2)], [3, 4, 5], [[(2,)]]))
        row, lot = [(4, 2), (0, 4)], [(0, 1), (3, 4)]
        check_leaps(tree, (0, 4), (2, 4), row)
        check_most(tree, ((0, 2, 3, 5), lot))
        check_about(tree, 2, ("always", (0, 2, 3, 5), lot))
        self.assertEqual((row, lot), ([(4, 2), (0, 4)], [(0, 1), (3, 4)]))
        self.assertEqual((ways, without), (WAYS, [4, 1, 4]))
        self.assertEqual((slide_moves, leap_moves), ([(4, 3), (3, 4)], [(4, 2), (2, 4)]))
        self.assertEqual((tree.ways(), len(tree)), (WAYS, 6))

    def test_every_list_that_is_told_is_the_askers_own(self):
        tree = Tree(list(WAYS))
        kept = copy.deepcopy(told_of(tree))
        spoil(told_of(tree))
        self.assertEqual(told_of(tree), kept)
        for ways in plain.small_trees():
            tree = Tree(ways)
            kept = [tree.ways(), [tree.beside(room) for room in range(len(tree))], tree.pieces([0])]
            spoil([tree.ways(), [tree.beside(room) for room in range(len(tree))], tree.pieces([0]), tree.pieces([])])
            self.assertEqual(
                [tree.ways(), [tree.beside(room) for room in range(len(tree))], tree.pieces([0])], kept
            )

    def test_no_two_told_lists_are_the_same_one(self):
        tree = Tree(list(WAYS))
        lists = lists_in(told_of(tree)) + lists_in(told_of(tree))
        self.assertEqual(len({id(one) for one in lists}), len(lists))
        for one, other in zip(tree.pieces([1]), tree.pieces([1])):
            self.assertIsNot(one, other)
        moves = []
        self.assertIsNot(tree.with_room(0), tree)
        self.assertEqual((slid(tree, (0,), moves), moves), ((0,), []))

    def test_the_tree_with_one_room_more_is_apart_from_its_own(self):
        tree = Tree(list(WAYS))
        more = tree.with_room(0)
        spoil(more.ways())
        spoil(more.beside(0))
        self.assertEqual((tree.beside(0), more.beside(0)), ([1], [1, 6]))
        self.assertEqual((len(tree), len(more), tree.ways()), (6, 7, WAYS))

    def test_the_same_asked_again_of_equal_trees_is_told_the_same(self):
        for ways in (list(WAYS), sorted(WAYS), sorted(WAYS, reverse=True), WAYS[2:] + WAYS[:2]):
            tree = Tree(ways)
            self.assertEqual(told_of(tree), told_of(tree))
            told, other = told_of(tree), told_of(Tree(list(WAYS)))
            # The ways alone, and those with one room more, are told as they were handed in.
            self.assertEqual(told[1:5] + told[6:], other[1:5] + other[6:])
            self.assertEqual((told[0], told[5]), (ways, [*ways, (2, 6)]))


class WhatIsRefused(GuardCase):
    """Point [3]."""

    def test_each_refusal_can_be_caught_as_a_guard_error_and_a_value_error(self):
        tree = Tree(list(WAYS))
        for call in (
            lambda: Tree(None),
            lambda: tree.beside(None),
            lambda: check_setting(tree, None),
            lambda: slid(tree, (), None),
            lambda: leapt(tree, (), None),
            lambda: all_settings(tree, 1, most=0),
            lambda: reached(tree, (), most=0),
            lambda: lock(tree, None),
            lambda: freed(tree, (0, 2), 0),
            lambda: check_peel(tree, (), None),
            lambda: check_lock(tree, (), None),
            lambda: check_come(tree, (), (), None),
            lambda: check_out(tree, (0,), 0, None),
            lambda: fewest_out(tree, (), 0),
            lambda: leaps(tree, (0,), ()),
            lambda: check_leaps(tree, (), (), None),
            lambda: lane_slides(tree, (), ()),
            lambda: how_many_come(tree, None),
            lambda: check_most(tree, None),
            lambda: about(tree, None),
            lambda: check_about(tree, 0, None),
        ):
            for kind in (GuardError, ValueError):
                with self.assertRaises(kind):
                    call()

    def test_what_is_refused_changes_nothing(self):
        tree = Tree(list(WAYS))
        told = told_of(tree)
        moves = [(4, 3), (0, 1), "no move"]
        for call in (
            lambda: tree.beside(6),
            lambda: tree.branch(0, away=2),
            lambda: tree.between(0, [1]),
            lambda: tree.pieces([0, 1, None]),
            lambda: tree.with_room(6),
            lambda: check_setting(tree, (0, 1)),
            lambda: slid(tree, (0, 4), moves),
            lambda: leapt(tree, (0, 4), moves),
            lambda: all_settings(tree, 3, most=3),
            lambda: reached(tree, (0, 4), most=2),
            lambda: branch_lock(tree, (0, 4), 0, away=2),
            lambda: freed(tree, (0, 2), 0),
            lambda: check_peel(tree, (0, 4), [(4, 3), "no step"]),
            lambda: check_lock(tree, (0, 2), (2, 0, 0)),
            lambda: check_come(tree, (0, 4), (0, 3), ("walk", moves)),
            lambda: check_out(tree, (0, 2, 4), 0, ((2,), [[(4,)]])),
            lambda: leaps(tree, (0, 4), (0,)),
            lambda: check_leaps(tree, (0, 4), (2, 3), moves),
            lambda: needs(tree, (0, 4), (0, None)),
            lambda: least(tree, (0, 4), ()),
            lambda: lane_slides(tree, (0, 4), (2, 3)),
            lambda: how_many_come(tree, (0, 1)),
            lambda: check_most(tree, ((0, 2, 3, 5), [(0, 1), (1, 2)])),
            lambda: about(tree, 6),
            lambda: check_about(tree, 2, ("always", (0, 2, 3, 5), [(1, 2), (3, 4)])),
        ):
            for _ in range(2):
                self.assertRaises(GuardError, call)
                self.assertEqual(told_of(tree), told)
        self.assertEqual(moves, [(4, 3), (0, 1), "no move"])

    def test_lists_and_dicts_may_stand_anywhere(self):
        tree = Tree(list(WAYS))
        for thing in ([], {}, [[]], {"a": {}}, [{}], set()):
            self.refused(NoTree, {"at": 1}, Tree, [(0, 1), thing])
            self.refused(NoTree, {"at": 0}, Tree, [(thing, 1)])
            self.refused(NoTree, {"at": 0}, Tree, [(0, thing)])
            self.refused(NoRoom, {"room": thing}, tree.beside, thing)
            self.refused(NoRoom, {"room": thing}, tree.pieces, [0, thing])
            self.refused(NoSetting, {"at": 1}, check_setting, tree, (0, thing))
            self.refused(NoSlide, {"at": 1}, slid, tree, (0, 4), [(4, 3), thing])
            self.refused(NoSlide, {"at": 1}, slid, tree, (0, 4), [(4, 3), (thing, 4)])
            self.refused(NoSlide, {"at": 1}, leapt, tree, (0, 4), [(4, 3), (3, thing)])
            self.refused(NoPaper, {"at": 1}, check_peel, tree, (0, 4), [(4, 3), (thing, 1)])
            self.refused(NoPaper, {"at": 1}, check_lock, tree, (0, 2), (0, thing))
            self.refused(NoPaper, {"at": -1}, check_come, tree, (), (), (thing, thing))
            self.refused(NoPaper, {"at": -1}, check_come, tree, (), (), ("lock", thing, ()))
            self.refused(NoPaper, {"at": 0}, check_come, tree, (), (0,), ("number", (), [thing]))
            self.refused(NoPaper, {"at": 2}, check_out, tree, (0, 2), 0, ((2,), [[(thing,)]]))
            self.refused(NoRoom, {"room": thing}, freed, tree, (0, 2), thing)
            self.refused(NoSetting, {"at": 1}, leaps, tree, (0, 2), (0, thing))
            self.refused(NoPaper, {"at": 1}, check_leaps, tree, (0, 4), (2, 4), [(4, 2), (thing, 4)])
            self.refused(NoPaper, {"at": 1}, check_most, tree, ((0, 2, 3, 5), [(0, 1), (3, thing)]))
            self.refused(NoPaper, {"at": 0}, check_about, tree, 2, (thing, (0, 2, 3, 5), []))
            self.refused(NoPaper, {"at": 1}, check_about, tree, 1, ("never", thing, (0, 2, 3, 5), []))
            self.refused(NoRoom, {"room": thing}, about, tree, thing)

    def test_of_several_refusals_the_first_comes(self):
        sixty, tree = Tree(plain.lane(60)), Tree(list(WAYS))
        self.refused(NoTree, {"at": -1}, Tree, [None] * 60)
        self.refused(NoRoom, {"room": 60}, sixty.with_room, 60)
        self.refused(NoRoom, {"room": None}, tree.branch, None, away="x")
        self.refused(NoRoom, {"room": "x"}, tree.branch, 0, away="x")
        self.refused(NoSetting, {"at": -1}, slid, tree, None, None)
        self.refused(NoSetting, {"at": 1}, leapt, tree, (0, 1), [None])
        self.refused(NoSetting, {"at": 1}, reached, tree, (0, 1), most=0)
        self.refused(TooMany, {"many": 0}, reached, tree, (0, 4), most=0)
        self.refused(NoSetting, {"at": 0}, come, tree, (None,), (0, None))
        self.refused(NoSetting, {"at": 1}, come, tree, (0,), (0, None))
        self.refused(NoSetting, {"at": 1}, check_come, tree, (0,), (0, None), None)
        self.refused(NoRoom, {"room": None}, branch_locked, tree, (0, 2), None, away=None)
        self.refused(NoRoom, {"room": "x"}, branch_locked, tree, (0, 2), 1, away="x")
        self.refused(NoRoom, {"room": 1}, branch_locked, tree, (0, 2), 1, away=5)
        self.refused(NoRoom, {"room": 5}, branch_locked, tree, (0, 2), 0, away=5)
        self.refused(NoRoom, {"room": 1}, freed, tree, (0, 2), 1)
        self.refused(Locked, {"lock": (0, 2)}, freed, tree, (0, 2), 2)
        self.refused(NoRoom, {"room": 1}, check_out, tree, (0, 2), 1, None)
        self.refused(NoPaper, {"at": 0}, check_out, tree, (0, 2), 0, (None, None))
        for call in (leaps, needs, least, lane_slides):
            self.refused(NoSetting, {"at": 0}, call, tree, (None,), (0, None))
            self.refused(NoSetting, {"at": 1}, call, tree, (0,), (0, None))
            self.refused(Unlike, {"many": 1, "more": 2}, call, tree, (0,), (0, 2))
        self.refused(NoLane, {"room": 1}, lane_slides, tree, (0,), (4,))
        self.refused(NoSetting, {"at": 1}, check_leaps, tree, (0,), (0, None), None)
        self.refused(Unlike, {"many": 2, "more": 1}, check_leaps, tree, (0, 2), (0,), None)
        self.refused(NoPaper, {"at": -1}, check_most, tree, ((0, 1), [None]))
        self.refused(NoPaper, {"at": 0}, check_most, tree, ((), [None]))
        self.refused(NoRoom, {"room": None}, check_about, tree, None, None)
        self.refused(NoPaper, {"at": 0}, check_about, tree, 0, ("never", None))
        self.refused(NoPaper, {"at": 1}, check_about, tree, 0, ("never", None, None, None))
        self.refused(NoPaper, {"at": 2}, check_about, tree, 0, ("never", 1, None, None))


if __name__ == "__main__":
    unittest.main()
