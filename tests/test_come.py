"""Points [30] to [33]: what comes of what, and by which slides, or why not."""

import itertools
import unittest

from apartguards.come import check_come, come, key
from apartguards.errors import NoPaper
from apartguards.settings import reached
from apartguards.trees import Tree
from tests import papers, plain
from tests.case import GuardCase

# Two stars, around 0 and 5, tied by rooms 4 and 8: two guards in leaves of the same star are a lock.
STARS = [(0, 1), (0, 2), (0, 3), (0, 4), (4, 8), (5, 8), (5, 6), (5, 7)]

# Guards in 1 and 2 are a lock, and between them lie three lanes of four rooms: from 3, from 7 and from 11 on.
HUB = [(0, 1), (0, 2)]
for first in (3, 7, 11):
    HUB += [(0, first), (first, first + 1), (first + 1, first + 2), (first + 2, first + 3)]


def lots_of(ways):
    """For each setting the lot of settings that come of it, found by the package's settings."""
    lots = {}
    for setting in plain.settings(ways):
        if setting not in lots:
            lot = reached(Tree(ways), setting)
            lots.update({one: lot for one in lot})
    return lots


def pairs_of(ways):
    """Each two settings of a small tree, or some of them where there are many."""
    pairs = list(itertools.product(plain.settings(ways), repeat=2))
    return pairs if len(pairs) < 700 else pairs[:: len(pairs) // 700]


def great_pairs():
    """Trees of sixty rooms with two settings that come of one another, or mostly not."""
    rows = []
    for ways in plain.great_trees():
        for many in (1, 2, 5, 12, 20, 60):
            one = papers.drawn_setting(ways, many, many)
            rows.append((ways, one, papers.shaken(ways, one, 3000, many)))
            rows.append((ways, one, papers.drawn_setting(ways, len(one), many + 100)))
    rows.append((plain.lane(60), tuple(range(0, 60, 2)), tuple(range(1, 60, 2))))
    rows.append((plain.lane(60), tuple(range(0, 40, 2)), tuple(range(21, 60, 2))))
    rows.append((plain.comb(60), tuple(range(1, 60, 2)), (*range(1, 57, 2), 58)))
    return rows


def double_star(rooms):
    """Room 0 with half of the rooms beside it, each with one more room behind it."""
    return [(0, room) if room % 2 else (room - 1, room) for room in range(1, rooms)]


class WalkCase(GuardCase):
    def hold_walk(self, ways, one, other, moves):
        """Do the slides one by one, and hold how many there are against the bound."""
        self.assertIs(type(moves), list)
        self.assertEqual(papers.slid(ways, one, moves), (other, None), (ways, one, other))
        self.assertLessEqual(len(moves), 4 * len(one) * (len(ways) + 1))
        if one == other:
            self.assertEqual(moves, [])

    def hold_answer(self, ways, one, other):
        """Hold what is told of two settings against a plain search for locks and numbers; tell its word."""
        told = come(Tree(ways), one, other)
        self.assertIs(type(told), tuple)
        locks = [papers.lock(ways, one), papers.lock(ways, other)]
        pieces = papers.pieces_between(ways, locks[0])
        unlike = [piece for piece in pieces if papers.numbers([piece], one) != papers.numbers([piece], other)]
        if set(locks[0]) - set(other):
            self.assertEqual(told, ("lock", 0, locks[0]))
        elif set(locks[1]) - set(one):
            self.assertEqual(told, ("lock", 1, locks[1]))
        elif unlike:
            self.assertEqual(told, ("number", locks[0], unlike[0]))
        else:
            self.assertEqual((told[0], len(told)), ("walk", 2))
            self.hold_walk(ways, one, other, told[1])
        self.assertIsNone(papers.place_of_come(ways, one, other, told))
        self.assertIsNone(check_come(Tree(ways), one, other, told))
        return told[0]


class Key(GuardCase):
    """Points [30] and [31]."""

    def test_keys_are_the_same_just_where_one_comes_of_the_other(self):
        for ways in plain.small_trees():
            lots = lots_of(ways)
            keys = {setting: key(Tree(ways), setting) for setting in lots}
            for lot in lots.values():
                self.assertEqual({keys[setting] for setting in lot}, {keys[lot[0]]})
            # As many keys as lots: so no two lots have the same.
            self.assertEqual(len(set(keys.values())), len({lot[0] for lot in lots.values()}))

    def test_a_key_is_the_greatest_lock_and_the_numbers_in_the_pieces(self):
        for ways in plain.small_trees():
            for setting in plain.settings(ways):
                told = key(Tree(ways), setting)
                self.assertEqual(told, papers.key(ways, setting))
                self.assertEqual([type(thing) for thing in (told, *told)], [tuple] * 3)

    def test_some_keys(self):
        self.assertEqual(key(Tree([]), ()), ((), (0,)))
        self.assertEqual(key(Tree([]), (0,)), ((0,), ()))
        self.assertEqual(key(Tree(plain.lane(9)), (1, 5)), ((), (2,)))
        self.assertEqual(key(Tree(plain.lane(9)), (0, 2, 4, 6, 8)), ((0, 2, 4, 6, 8), ()))
        self.assertEqual(key(Tree(plain.star(60)), (5, 7)), ((5, 7), (0,) * 57))
        self.assertEqual(key(Tree(STARS), (1, 2, 6, 7)), ((1, 2, 6, 7), (0, 0)))
        self.assertEqual(key(Tree(STARS), (1, 2, 4, 6, 7)), ((1, 2, 6, 7), (0, 1)))
        self.assertEqual(key(Tree(HUB), (1, 2, 4, 7, 9, 14)), ((1, 2), (1, 2, 1)))
        self.assertEqual(key(Tree(HUB), (1, 2, 7, 11)), ((1, 2), (0, 1, 1)))

    def test_sixty_rooms(self):
        with plain.within(60):
            for ways, one, other in great_pairs():
                for setting in (one, other):
                    self.assertEqual(key(Tree(ways), setting), papers.key(ways, setting))

    def test_what_is_no_setting(self):
        self.settings_refused(key)


class Come(WalkCase):
    """Points [30] and [32]."""

    def test_a_walk_just_where_one_comes_of_the_other(self):
        for ways in plain.small_trees():
            lots = lots_of(ways)
            for one, other in pairs_of(ways):
                word = self.hold_answer(ways, one, other)
                self.assertEqual(word == "walk", other in lots[one])

    def test_a_setting_and_itself(self):
        for ways in plain.small_trees():
            for setting in plain.settings(ways):
                self.assertEqual(come(Tree(ways), setting, setting), ("walk", []))
        for ways, one, other in great_pairs():
            self.assertEqual(come(Tree(ways), one, one), ("walk", []))
            self.assertEqual(come(Tree(ways), other, other), ("walk", []))

    def test_one_room(self):
        tree = Tree([])
        self.assertEqual(come(tree, (), ()), ("walk", []))
        self.assertEqual(come(tree, (0,), (0,)), ("walk", []))
        self.assertEqual(come(tree, (0,), ()), ("lock", 0, (0,)))
        self.assertEqual(come(tree, (), (0,)), ("lock", 1, (0,)))

    def test_locks_of_the_one_and_of_the_other(self):
        tree = Tree(plain.star(6))
        self.assertEqual(come(tree, (1, 2), (1, 3)), ("lock", 0, (1, 2)))
        self.assertEqual(come(tree, (1, 2), (4,)), ("lock", 0, (1, 2)))
        self.assertEqual(come(tree, (1, 2), (1, 2, 3)), ("lock", 1, (1, 2, 3)))
        self.assertEqual(come(tree, (1,), (1, 2)), ("lock", 1, (1, 2)))
        self.assertEqual(come(tree, (1,), ()), ("number", (), [0, 1, 2, 3, 4, 5]))
        self.assertEqual(come(tree, (1,), (4,)), ("walk", [(1, 0), (0, 4)]))

    def test_unlike_numbers_in_the_first_such_piece(self):
        lock = (1, 2)
        for one, other, piece in (
            ((1, 2, 4, 8), (1, 2, 4, 12), [7, 8, 9, 10]),
            ((1, 2, 9), (1, 2, 7, 14), [11, 12, 13, 14]),
            ((1, 2, 4, 6, 9), (1, 2, 4, 8, 10), [3, 4, 5, 6]),
            ((1, 2), (1, 2, 6), [3, 4, 5, 6]),
        ):
            self.assertEqual(come(Tree(HUB), one, other), ("number", lock, piece))
            self.assertEqual(come(Tree(HUB), other, one), ("number", lock, piece))

    def test_walks_between_locked_guards(self):
        for one, other in (((1, 2, 3, 8, 14), (1, 2, 6, 7, 12)), ((1, 2, 3, 5, 8, 10), (1, 2, 3, 6, 7, 9))):
            self.assertEqual(self.hold_answer(HUB, one, other), "walk")
            self.assertEqual(self.hold_answer(HUB, other, one), "walk")

    def test_a_guard_that_would_be_locked_in_goes_first(self):
        # Whichever leaf is filled first, of two guards as near to it the one in the leaf's own star must go.
        for rooms in range(3, 12):
            for ways in (double_star(rooms), plain.star(rooms) + [(1, rooms), (rooms, rooms + 1)]):
                lots = lots_of(ways)
                for one, other in pairs_of(ways):
                    self.assertEqual(self.hold_answer(ways, one, other) == "walk", other in lots[one])

    def test_sixty_rooms(self):
        with plain.within(120):
            words = [self.hold_answer(ways, one, other) for ways, one, other in great_pairs()]
        self.assertEqual(sorted(set(words)), ["lock", "number", "walk"])

    def test_many_guards_in_trees_of_sixty_rooms(self):
        with plain.within(120):
            for ways in (double_star(60), double_star(59), plain.comb(60), plain.lane(60)):
                for seed in range(4):
                    one = papers.drawn_setting(ways, 60, seed)
                    other = papers.shaken(ways, one, 4000, seed)
                    self.assertEqual(self.hold_answer(ways, one, other), "walk")
                    self.assertEqual(self.hold_answer(ways, other, one), "walk")

    def test_drawn_trees(self):
        words = []
        for rooms, seed in itertools.product((10, 14, 20, 33), range(6)):
            ways = plain.drawn(rooms, seed)
            for many in range(1, rooms // 2):
                one = papers.drawn_setting(ways, many, seed)
                for other in (papers.shaken(ways, one, 300, seed), papers.drawn_setting(ways, len(one), many)):
                    words.append(self.hold_answer(ways, one, other))
                words.append(self.hold_answer(ways, one, one[1:]))
                words.append(self.hold_answer(ways, one[1:], one))
        self.assertEqual(sorted(set(words)), ["lock", "number", "walk"])

    def test_settings_of_unlike_numbers_of_guards(self):
        with plain.within(60):
            for ways in plain.great_trees():
                one = papers.drawn_setting(ways, 9, 9)
                for other in ((), one[1:], papers.drawn_setting(ways, 60, 1)):
                    self.assertIn(self.hold_answer(ways, one, other), ("lock", "number"))
                    self.assertIn(self.hold_answer(ways, other, one), ("lock", "number"))
                self.assertEqual(come(Tree(ways), (), ()), ("walk", []))

    def test_what_is_no_setting_the_one_ahead(self):
        for other in ((), None, (0, 0)):
            self.settings_refused(come, other)
        self.settings_refused(lambda tree, other: come(tree, (), other))
        self.settings_refused(lambda tree, other: come(tree, (1,), other))


class CheckCome(GuardCase):
    """Point [33]."""

    def hold(self, ways, one, other, answer):
        self.answered(papers.place_of_come(ways, one, other, answer), check_come, Tree(ways), one, other, answer)

    def test_every_lock_and_piece_against_a_plain_look(self):
        for ways in [ways for rooms in range(1, 5) for ways in plain.every_tree(rooms)[:4]] + [plain.star(5), STARS]:
            rooms = papers.rooms_of(ways)
            small = len(ways) < 4
            pairs = list(itertools.product(plain.settings(ways), repeat=2))
            for one, other in pairs if small else pairs[:: 1 + len(pairs) // 60]:
                guards = [some for many in range(3) for some in itertools.permutations({*one, *other}, many)]
                for some, side in itertools.product(guards, (0, 1)):
                    self.hold(ways, one, other, ("lock", side, some))
                for some in guards:
                    for piece in [[], list(rooms), [0], *papers.pieces_between(ways, some)]:
                        self.hold(ways, one, other, ("number", some, piece))

    def test_every_short_walk_against_a_plain_look(self):
        for ways in [ways for rooms in range(1, 4) for ways in plain.every_tree(rooms)] + [plain.lane(4)]:
            steps = [*ways, *[way[::-1] for way in ways], (0, 0)]
            for one, other in itertools.product(plain.settings(ways), repeat=2):
                for moves in [row for many in range(4) for row in itertools.product(steps, repeat=many)]:
                    self.hold(ways, one, other, ("walk", list(moves)))

    def test_walks_of_others(self):
        tree = Tree(plain.lane(6))
        self.assertIsNone(check_come(tree, (0,), (0,), ("walk", [])))
        self.assertIsNone(check_come(tree, (0,), (0,), ("walk", [(0, 1), (1, 0)] * 40)))
        self.assertIsNone(check_come(tree, (0, 2), (1, 3), ("walk", [(2, 3), (0, 1)])))
        self.assertIsNone(check_come(tree, (0, 2), (1, 3), ("walk", [(2, 3), (3, 4), (0, 1), (4, 3)])))
        self.refused(NoPaper, {"at": 0}, check_come, tree, (0, 2), (1, 3), ("walk", []))
        self.refused(NoPaper, {"at": 1}, check_come, tree, (0, 2), (1, 3), ("walk", [(2, 3)]))
        self.refused(NoPaper, {"at": 0}, check_come, tree, (0, 2), (1, 3), ("walk", [(0, 1), (2, 3)]))
        self.refused(NoPaper, {"at": 2}, check_come, tree, (0, 2), (1, 3), ("walk", [(2, 3), (3, 4), (0, 2)]))
        self.refused(NoPaper, {"at": 3}, check_come, tree, (0, 2), (1, 3), ("walk", [(2, 3), (3, 4), (0, 1)]))
        self.refused(NoPaper, {"at": 0}, check_come, tree, (0, 2), (1,), ("walk", []))
        for thing in [*plain.ODD_THINGS, (2, 4), (1, 2), [2, 3], (2, True), (False, 1)]:
            self.refused(NoPaper, {"at": 0}, check_come, tree, (0, 2), (1, 3), ("walk", [thing]))
            self.refused(NoPaper, {"at": 1}, check_come, tree, (0, 2), (1, 3), ("walk", [(2, 3), thing, (0, 1)]))

    def test_locks_of_others(self):
        tree = Tree(STARS)
        one, other = (1, 2, 6, 7), (1, 3, 6, 7)
        for guards in ((1, 2), (2, 1), (7, 2, 1, 6)):
            self.assertIsNone(check_come(tree, one, other, ("lock", 0, guards)))
            self.assertIsNone(check_come(tree, other, one, ("lock", 1, guards)))
        self.assertIsNone(check_come(tree, one, other, ("lock", 1, (3, 1))))
        self.assertIsNone(check_come(tree, other, one, ("lock", 0, (3, 1, 6, 7))))
        for guards, at in (((6, 7), 4), ((7, 6), 4), ((), 0), ((2,), 1), ((6, 2, 1), 3), ((1, 2, 6), 5)):
            self.refused(NoPaper, {"at": at}, check_come, tree, one, other, ("lock", 0, guards))
            self.refused(NoPaper, {"at": at}, check_come, tree, other, one, ("lock", 1, guards))
        for guards, at in (((1, 2), 1), ((2, 1), 0), ((1, 3, 1), 2), ((3, 1, 5), 2)):
            self.refused(NoPaper, {"at": at}, check_come, tree, one, other, ("lock", 1, guards))
            self.refused(NoPaper, {"at": at}, check_come, tree, other, one, ("lock", 0, guards))
        for thing in (*plain.ODD_THINGS, 3, 4, 5, 1):
            self.refused(NoPaper, {"at": 1}, check_come, tree, one, other, ("lock", 0, (1, thing, 2)))
            self.refused(NoPaper, {"at": 2}, check_come, tree, one, other, ("lock", 0, (2, 1, thing)))

    def test_a_tree_of_one_room(self):
        tree = Tree([])
        self.assertIsNone(check_come(tree, (0,), (), ("lock", 0, (0,))))
        self.assertIsNone(check_come(tree, (), (0,), ("lock", 1, (0,))))
        self.assertIsNone(check_come(tree, (), (0,), ("number", (), [0])))
        self.refused(NoPaper, {"at": 2}, check_come, tree, (0,), (0,), ("lock", 0, (0,)))
        self.refused(NoPaper, {"at": 2}, check_come, tree, (0,), (0,), ("number", (0,), [0]))
        self.refused(NoPaper, {"at": 1}, check_come, tree, (0,), (0,), ("number", (), [0]))
        self.refused(NoPaper, {"at": 0}, check_come, tree, (0,), (0,), ("number", (), [False]))

    def test_numbers_of_others(self):
        tree, whole = Tree(HUB), list(range(15))
        one, other = (1, 2, 4, 8, 12), (1, 2, 3, 5, 10)
        for guards in ((1, 2), (2, 1)):
            self.assertIsNone(check_come(tree, one, other, ("number", guards, [3, 4, 5, 6])))
            self.assertIsNone(check_come(tree, one, other, ("number", guards, [11, 12, 13, 14])))
            self.refused(NoPaper, {"at": 5}, check_come, tree, one, other, ("number", guards, [7, 8, 9, 10]))
        self.refused(NoPaper, {"at": 1}, check_come, tree, one, other, ("number", (), whole))
        self.assertIsNone(check_come(tree, one, (1, 2), ("number", (), whole)))
        self.assertIsNone(check_come(tree, (), one, ("number", (), whole)))
        self.refused(NoPaper, {"at": 1}, check_come, tree, one, other, ("number", (1,), [3, 4, 5, 6]))
        self.refused(NoPaper, {"at": 1}, check_come, tree, one, other, ("number", (2, 4), [3, 4, 5, 6]))
        self.refused(NoPaper, {"at": 0}, check_come, tree, one, (2, 5), ("number", (1, 2), [3, 4, 5, 6]))

    def test_a_lock_of_guards_that_only_one_of_them_has(self):
        # Guards in 1, 2 and 3 of a star are a lock of the one, but not of the rooms with a guard in both.
        tree, one, other = Tree(plain.star(6)), (1, 2, 3), (1, 3)
        self.assertIsNone(check_come(tree, one, other, ("lock", 0, (3, 1, 2))))
        self.refused(NoPaper, {"at": 2}, check_come, tree, one, other, ("number", (3, 1, 2), [4]))
        self.refused(NoPaper, {"at": 1}, check_come, tree, one, other, ("number", (1, 2, 3), [4]))
        self.refused(NoPaper, {"at": 5}, check_come, tree, one, other, ("number", (3, 1), [4]))
        self.assertIsNone(check_come(tree, one, other, ("number", (3, 1), [2])))

    def test_what_is_no_piece(self):
        tree = Tree(HUB)
        one, other = (1, 2, 4, 8, 12), (1, 2, 3, 5, 10)
        odd = [[], [4], [4, 5, 6], [6, 5, 4, 3], [3, 4, 5, 6, 6], [3, 3, 4, 5, 6], [3, 4, 5, 6, 7, 8, 9, 10]]
        odd += [[0, 3, 4, 5, 6], [0], [1, 2], [[3, 4, 5, 6]], ["4"], [(3, 4, 5, 6)], [None], [{}], [4, []]]
        for piece in odd:
            self.refused(NoPaper, {"at": 4}, check_come, tree, one, other, ("number", (2, 1), piece))
            self.refused(NoPaper, {"at": 0}, check_come, tree, one, (), ("number", (), piece))
        self.refused(NoPaper, {"at": 4}, check_come, tree, one, other, ("number", (1, 2), list(range(15))))
        self.refused(NoPaper, {"at": 0}, check_come, tree, one, (), ("number", (), list(range(14))))
        tree = Tree([(0, 1)])
        for piece in ([False, True], [False, 1], [0, True], [1, 0], [0], [1]):
            self.refused(NoPaper, {"at": 0}, check_come, tree, (0,), (), ("number", (), piece))
        self.assertIsNone(check_come(tree, (0,), (), ("number", (), [0, 1])))

    def test_what_is_not_built_so(self):
        odd = [*plain.ODD_THINGS, Tree([]), ("walk",), ("lock",), ("number",), ["walk", []], ["lock", 0, (1, 2)], "walk"]
        odd += [("walk", ()), ("walk", None), ("walk", [], []), ("walk", {}), ("walk", "", []), ("Walk", []), ("", [])]
        odd += [("lock", 0), ("lock", (1, 2)), ("lock", 0, [1, 2]), ("lock", 0, (1, 2), ()), ("lock", 2, (1, 2))]
        odd += [("lock", False, (1, 2)), ("lock", True, (1, 2)), ("lock", -1, (1, 2)), ("lock", None, (1, 2))]
        odd += [("lock", "0", (1, 2)), ("lock", [], (1, 2)), ("lock", {}, (1, 2)), ("lock", 0, None), ("lock", 0, 1)]
        odd += [("number", (), list(range(6)), []), ("number", [], list(range(6))), ("number", (), tuple(range(6)))]
        odd += [("number", (), None), ("number", None, []), ("number", 0, (1, 2)), ("number", []), ("number", ())]
        odd += [(b"walk", []), (None, []), (["walk"], []), (0, []), ([], [], []), ({}, 0, ()), (True, (), [])]
        odd += [("walk", 0, ()), ("lock", (), []), ("walk", (), []), ("number", 0, ()), ("locks", 0, (1, 2))]
        for ways, one, other in ((plain.star(6), (1, 2), (1,)), ([], (0,), (0,)), (plain.lane(6), (1,), (1,))):
            for answer in odd:
                self.assertEqual(papers.place_of_come(ways, one, other, answer), -1, answer)
                self.refused(NoPaper, {"at": -1}, check_come, Tree(ways), one, other, answer)

    def test_what_is_told_of_others_is_right_just_where_it_is_true(self):
        for ways in (plain.star(5), plain.lane(5), plain.comb(6), STARS):
            lots = lots_of(ways)
            for one, other in pairs_of(ways):
                guards = [some for many in range(4) for some in itertools.combinations(sorted({*one, *other}), many)]
                answers = [("lock", side, some) for some in guards for side in (0, 1)]
                both = [some for some in guards if set(some) <= set(one) & set(other)]
                answers += [("number", some, piece) for some in both for piece in papers.pieces_between(ways, some)]
                places = [papers.place_of_come(ways, one, other, answer) for answer in answers]
                if other in lots[one]:
                    self.assertNotIn(None, places)
                for answer, at in list(zip(answers, places))[::7]:
                    self.answered(at, check_come, Tree(ways), one, other, answer)

    def test_sixty_rooms(self):
        with plain.within(120):
            for ways, one, other in great_pairs():
                told = come(Tree(ways), one, other)
                if told[0] == "walk" and told[1]:
                    back = [move[::-1] for move in told[1]][::-1]
                    self.answered(None, check_come, Tree(ways), other, one, ("walk", back))
                    self.hold(ways, other, one, told)
                    self.hold(ways, one, other, ("walk", told[1][:-1]))
                    self.hold(ways, one, other, ("walk", told[1][1:]))
                    self.hold(ways, one, other, ("walk", told[1] + back))
                elif told[0] == "lock":
                    self.answered(None, check_come, Tree(ways), other, one, ("lock", 1 - told[1], told[2][::-1]))
                    self.hold(ways, other, one, told)
                    self.hold(ways, one, other, ("lock", told[1], told[2][1:]))
                    self.hold(ways, one, other, ("number", told[2], list(papers.rooms_of(ways))))

    def test_what_is_no_setting_the_one_ahead(self):
        for other, answer in (((), None), (None, None), ((0, 0), ("walk", []))):
            self.settings_refused(check_come, other, answer)
        for answer in (None, ("walk", [])):
            self.settings_refused(lambda tree, other, answer: check_come(tree, (), other, answer), answer)


if __name__ == "__main__":
    unittest.main()
