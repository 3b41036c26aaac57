"""Points [70] to [74]: the most guards, and which rooms have one always, never or sometimes."""

import itertools
import unittest

from apartguards.counts import how_many
from apartguards.errors import NoPaper, NoRoom
from apartguards.most import about, always, check_about, check_most, greatest_many, most, never
from apartguards.trees import Tree
from tests import greatest, papers, plain
from tests.case import GuardCase

# Room 0 never has a guard, 1 and 2 beside it always have; in the lane of rooms 3 to 6 behind it some have.
STAR_AND_LANE = [(0, 1), (0, 2), (0, 3), (3, 4), (4, 5), (5, 6)]


def trees():
    return [*plain.small_trees(), STAR_AND_LANE, plain.comb(9), plain.star(5) + [(4, 5), (5, 6), (5, 7)]]


def great_trees():
    drawn = [plain.drawn(60, seed) for seed in range(3, 20)] + [plain.drawn(59, seed) for seed in range(3)]
    return [*plain.great_trees(), plain.lane(59), plain.comb(59), *drawn]


class MostCase(GuardCase):
    def hold_kinds(self, settings, ways):
        for setting in settings:
            self.assertEqual({type(room) for room in setting}, {int})
        self.assertEqual({type(room) for way in ways for room in way}, {int} if ways else set())


class Most(MostCase):
    """Point [70]."""

    def hold(self, ways):
        """Hold what is told against a plain look; tell how many guards it shows."""
        told = most(Tree(ways))
        self.assertEqual([type(thing) for thing in (told, *told)], [tuple, tuple, list])
        self.assertIsNone(greatest.place_of_most(ways, told), (ways, told))
        self.hold_kinds(told[:1], told[1])
        self.assertEqual(check_most(Tree(ways), told), len(told[0]))
        return len(told[0])

    def test_as_many_as_can_be_out_of_all_settings(self):
        for ways in trees():
            self.assertEqual(self.hold(ways), len(greatest.greatest(ways)[0]))

    def test_no_more_ways_that_are_apart(self):
        for ways in trees()[::3]:
            _, lot = most(Tree(ways))
            for more in itertools.combinations(ways, len(lot) + 1):
                self.assertIsNotNone(greatest.wrong_way(ways, more))

    def test_some_trees(self):
        self.assertEqual(most(Tree([])), ((0,), []))
        self.assertEqual(most(Tree(plain.lane(3))), ((0, 2), [(1, 2)]))
        self.assertEqual(most(Tree(plain.star(60)))[0], tuple(range(1, 60)))
        self.assertEqual(most(Tree(plain.lane(59)))[0], tuple(range(0, 59, 2)))

    def test_sixty_rooms(self):
        with plain.within(60):
            for ways in great_trees():
                self.hold(ways)
            self.assertEqual([self.hold(ways) for ways in great_trees()[:3]], [30, 59, 30])

    def test_what_is_told_is_the_same_again(self):
        for ways in great_trees():
            self.assertEqual(most(Tree(ways[::-1])), most(Tree(ways)))


class CheckMost(MostCase):
    """Point [71]."""

    def hold(self, ways, answer):
        at = greatest.place_of_most(ways, answer)
        if at is None:
            told = check_most(Tree(ways), answer)
            self.assertEqual((told, type(told)), (len(answer[0]), int))
        else:
            self.refused(NoPaper, {"at": at}, check_most, Tree(ways), answer)
        return at

    def test_every_setting_with_every_few_ways_against_a_plain_look(self):
        found = 0
        for ways in [ways for rooms in range(1, 5) for ways in plain.every_tree(rooms)] + [plain.comb(5)]:
            lots = [list(lot) for many in range(4) for lot in itertools.permutations(ways, many)]
            for setting in plain.settings(ways):
                for lot in lots:
                    found += self.hold(ways, (setting, lot)) is None
        self.assertGreater(found, 100)

    def test_answers_of_others(self):
        tree = Tree(plain.lane(4))
        for setting in ((0, 2), (0, 3), (1, 3)):
            for ways in ([(0, 1), (2, 3)], [(2, 3), (0, 1)]):
                self.assertEqual(check_most(tree, (setting, ways)), 2)
        self.assertEqual(check_most(Tree([]), ((0,), [])), 1)
        for leaf in range(1, 60):
            self.assertEqual(check_most(Tree(plain.star(60)), (tuple(range(1, 60)), [(0, leaf)])), 59)

    def test_guards_and_ways_that_are_not_as_many_as_rooms(self):
        tree = Tree(plain.lane(4))
        for answer, at in ((((0, 2), []), 0), (((), []), 0), (((0, 2), [(1, 2)]), 1), (((0,), [(2, 3), (0, 1)]), 2)):
            self.refused(NoPaper, {"at": at}, check_most, tree, answer)
        self.refused(NoPaper, {"at": 0}, check_most, Tree([]), ((), []))

    def test_what_is_no_way_or_has_a_room_in_common_with_one_ahead(self):
        tree = Tree(plain.lane(4))
        odd = [*plain.ODD_THINGS, (1, 0), (0, 2), (0, 3), (3, 4), [0, 1], (False, 1), (0, True), (0, 1, 2), (-1, 0)]
        for thing in odd:
            self.refused(NoPaper, {"at": 0}, check_most, tree, ((0, 2), [thing, None]))
            self.refused(NoPaper, {"at": 1}, check_most, tree, ((0, 2), [(2, 3), thing, (0, 1)]))
        for ways, at in (([(0, 1), (0, 1)], 1), ([(0, 1), (1, 2)], 1), ([(2, 3), (0, 1), (1, 2), None], 2)):
            self.refused(NoPaper, {"at": at}, check_most, tree, ((0, 2), ways))

    def test_what_is_no_tuple_of_a_setting_and_a_list(self):
        ways = [(0, 1), (2, 3)]
        odd = [*plain.ODD_THINGS, Tree([]), ((0, 2),), ((0, 2), ways, ways), [(0, 2), ways], {(0, 2): ways}]
        odd += [((0, 2), thing) for thing in (*plain.ODD_THINGS, tuple(ways), dict(ways)) if type(thing) is not list]
        odd += [(thing, ways) for thing in plain.ODD_THINGS if thing not in ((), (0,))]
        odd += [(thing, ways) for thing in ([0, 2], (2, 0), (0, 0), (0, 1), (0, 4), (0, None), (0, [2]), (False, 2))]
        for answer in odd:
            self.assertEqual(greatest.place_of_most(plain.lane(4), answer), -1, answer)
            self.refused(NoPaper, {"at": -1}, check_most, Tree(plain.lane(4)), answer)

    def test_sixty_rooms(self):
        with plain.within(60):
            for ways in great_trees():
                setting, lot = most(Tree(ways))
                self.assertIsNone(self.hold(ways, (setting, lot[::-1])))
                for wrong in (lot[1:], lot + lot, ways):
                    self.assertIsNotNone(self.hold(ways, (setting, wrong)))
                for wrong in ((), setting[1:]):
                    self.assertIsNotNone(self.hold(ways, (wrong, lot)))


class About(MostCase):
    """Point [72]."""

    def hold(self, ways, room):
        """Hold what is told against a plain look, and tell its word."""
        told = about(Tree(ways), room)
        self.assertIsNone(greatest.place_of_about(ways, room, told), (ways, room, told))
        self.assertEqual(check_about(Tree(ways), room, told), told[0])
        kinds = {"always": [tuple], "never": [int, tuple], "some": [tuple, tuple]}[told[0]]
        self.assertEqual([type(thing) for thing in (told, *told)], [tuple, str, *kinds, list])
        self.hold_kinds([thing for thing in told if type(thing) is tuple], told[-1])
        return told[0]

    def test_all_none_or_some_out_of_all_greatest_settings(self):
        for ways in trees():
            settings = greatest.greatest(ways)
            for room in papers.rooms_of(ways):
                self.assertEqual(self.hold(ways, room), greatest.word_of(room, settings))

    def test_some_rooms(self):
        self.assertEqual(about(Tree([]), 0), ("always", (0,), []))
        self.assertEqual(about(Tree([(0, 1)]), 0), ("some", (0,), (1,), [(0, 1)]))
        self.assertEqual(about(Tree(plain.lane(3)), 0), ("always", (0, 2), [(1, 2)]))
        self.assertIn(about(Tree(plain.lane(3)), 1), [("never", 0, (0, 2), [(1, 2)]), ("never", 2, (0, 2), [(0, 1)])])
        words = [self.hold(STAR_AND_LANE, room) for room in range(7)]
        self.assertEqual(words, ["never", "always", "always", "some", "some", "some", "some"])

    def test_sixty_rooms(self):
        with plain.within(60):
            words = [self.hold(ways, room) for ways in great_trees() for room in papers.rooms_of(ways)]
        self.assertEqual(sorted(set(words)), ["always", "never", "some"])

    def test_what_is_told_is_the_same_again(self):
        for ways in great_trees():
            for room in (0, 17, 58):
                self.assertEqual(about(Tree(ways[::-1]), room), about(Tree(ways), room))

    def test_what_is_no_room(self):
        for ways in ([], plain.lane(4), plain.star(60)):
            for thing in (*plain.ODD_THINGS, len(ways) + 1):
                self.refused(NoRoom, {"room": thing}, about, Tree(ways), thing)


class CheckAbout(MostCase):
    """Point [73]."""

    def hold(self, ways, room, answer):
        at = greatest.place_of_about(ways, room, answer)
        if at is None:
            self.assertEqual(check_about(Tree(ways), room, answer), answer[0])
        else:
            self.refused(NoPaper, {"at": at}, check_about, Tree(ways), room, answer)
        return at

    def test_every_answer_of_small_trees_against_a_plain_look(self):
        for ways in [ways for rooms in range(1, 5) for ways in plain.every_tree(rooms)[:5]] + [plain.comb(5)]:
            lots = [list(lot) for many in range(3) for lot in itertools.combinations(ways, many)]
            settings = plain.settings(ways)
            for room, lot in itertools.product(papers.rooms_of(ways), lots):
                answers = [("always", setting, lot) for setting in settings]
                answers += [("never", other, one, lot) for other in papers.rooms_of(ways) for one in settings]
                answers += [("some", *pair, lot) for pair in itertools.product(settings, repeat=2)]
                right = {answer[0] for answer in answers if self.hold(ways, room, answer) is None}
                # Just one of the three is so, whichever answers are told of it.
                self.assertLessEqual(right, {greatest.word_of(room, greatest.greatest(ways))})

    def test_answers_of_others(self):
        tree = Tree(plain.star(5))
        setting = (1, 2, 3, 4)
        for leaf, other in itertools.permutations(setting, 2):
            self.assertEqual(check_about(tree, leaf, ("always", setting, [(0, other)])), "always")
            self.assertEqual(check_about(tree, 0, ("never", leaf, setting, [(0, other)])), "never")
            self.refused(NoPaper, {"at": 2}, check_about, tree, leaf, ("always", setting, [(0, leaf)]))
            self.refused(NoPaper, {"at": 3}, check_about, tree, 0, ("never", leaf, setting, [(0, leaf)]))
        tree, ways = Tree(plain.lane(4)), [(2, 3), (0, 1)]
        for having in ((0, 2), (0, 3)):
            self.assertEqual(check_about(tree, 0, ("some", having, (1, 3), ways)), "some")
            self.assertEqual(check_about(tree, 0, ("some", having, (1, 3), ways[::-1])), "some")
        self.assertEqual(check_about(Tree([]), 0, ("always", (0,), [])), "always")

    def test_what_is_no_such_tuple(self):
        setting, ways = (0, 2), [(0, 1), (2, 3)]
        odd = [*plain.ODD_THINGS, Tree([]), "always", ["some", setting, (1, 3), ways], {"always": 1}]
        odd += [("always",), ("always", setting), ("always", setting, ways, ways), ("always", 1, setting, ways)]
        odd += [("never",), ("never", 1, setting), ("never", setting, ways), ("never", 1, setting, ways, ways)]
        odd += [("some",), ("some", setting, ways), ("some", setting, (1, 3), ways, ways), ("some", setting, setting)]
        odd += [(word, setting, (1, 3), ways) for word in ("Some", "", b"some", "sometimes", None, 0, [], {}, ["some"])]
        odd += [(setting, (1, 3), ways), (("some",), setting), (("always", setting, ways),)]
        odd += [(Tree([]), 1, setting, ways)]
        for answer in odd:
            self.assertEqual(greatest.place_of_about(plain.lane(4), 0, answer), 0, answer)
            self.refused(NoPaper, {"at": 0}, check_about, Tree(plain.lane(4)), 0, answer)
            self.refused(NoPaper, {"at": 0}, check_about, Tree([]), 0, answer)

    def test_other_is_no_room_beside(self):
        tree, setting = Tree(plain.lane(3)), (0, 2)
        self.assertEqual(check_about(tree, 1, ("never", 0, setting, [(1, 2)])), "never")
        for other in (*plain.ODD_THINGS, 1, 3):
            for things in ((setting, [(1, 2)]), (None, None)):
                self.refused(NoPaper, {"at": 1}, check_about, tree, 1, ("never", other, *things))
        self.refused(NoPaper, {"at": 1}, check_about, tree, 0, ("never", 2, setting, [(0, 1)]))
        self.refused(NoPaper, {"at": 1}, check_about, tree, 0, ("never", True, setting, [(0, 1)]))
        self.refused(NoPaper, {"at": 1}, check_about, Tree([]), 0, ("never", 0, (0,), []))

    def test_what_is_no_setting(self):
        odd = [thing for thing in plain.ODD_THINGS if thing not in ((), (0,))]
        for thing in [*odd, [0, 2], (2, 0), (0, 0), (0, 1), (0, 3), (0, "2")]:
            self.refused(NoPaper, {"at": 1}, check_about, Tree(plain.lane(3)), 0, ("always", thing, None))
            self.refused(NoPaper, {"at": 2}, check_about, Tree(plain.lane(3)), 1, ("never", 0, thing, None))
            self.refused(NoPaper, {"at": 1}, check_about, Tree(plain.lane(3)), 0, ("some", thing, None, None))
            self.refused(NoPaper, {"at": 2}, check_about, Tree(plain.lane(3)), 0, ("some", (0,), thing, None))

    def test_guards_that_must_be_there_or_not(self):
        tree, ways = Tree(plain.lane(4)), [(0, 1), (2, 3)]
        self.assertEqual(check_about(tree, 0, ("some", (0, 2), (1, 3), ways)), "some")
        self.refused(NoPaper, {"at": 1}, check_about, tree, 0, ("some", (1, 3), (1, 3), ways))
        self.refused(NoPaper, {"at": 1}, check_about, tree, 0, ("some", (1, 3), (0, 2), ways))
        self.refused(NoPaper, {"at": 2}, check_about, tree, 0, ("some", (0, 3), (0, 2), ways))
        self.refused(NoPaper, {"at": 2}, check_about, tree, 0, ("some", (0,), (0,), None))
        # Of the other words any setting goes; one of too few guards fails with its ways.
        self.refused(NoPaper, {"at": 2}, check_about, tree, 0, ("always", (1, 3), ways))
        self.refused(NoPaper, {"at": 3}, check_about, tree, 0, ("never", 1, (0, 2), ways))
        self.refused(NoPaper, {"at": 2}, check_about, Tree(plain.lane(3)), 0, ("always", (1,), [(1, 2)]))
        self.refused(NoPaper, {"at": 3}, check_about, Tree(plain.lane(3)), 1, ("never", 0, (1,), [(1, 2)]))

    def test_ways_that_are_none_or_not_apart_or_not_as_many(self):
        tree, right = Tree(plain.lane(4)), [(0, 1), (2, 3)]
        odd = [*plain.ODD_THINGS, tuple(right), dict(right), [(0, 1), (1, 2)], [(0, 1), (0, 1)]]
        odd += [[(0, 1)], [], right + [(1, 2)], right + [None], [(1, 0), (2, 3)], [(0, 1), (2, 4)], [[0, 1], [2, 3]]]
        odd += [[(False, True), (2, 3)], [(0, True), (2, 3)], [(0, 1), None], [(0, 1), ({}, [])]]
        for ways in odd:
            self.refused(NoPaper, {"at": 3}, check_about, tree, 0, ("some", (0, 2), (1, 3), ways))
            self.refused(NoPaper, {"at": 3}, check_about, tree, 1, ("never", 0, (1, 3), ways))
            self.refused(NoPaper, {"at": 2}, check_about, tree, 1, ("always", (1, 3), ways))
        for pair in (((0, 2), (1,)), ((0,), (1, 3)), ((0,), (1,)), ((0,), ())):
            self.refused(NoPaper, {"at": 3}, check_about, tree, 0, ("some", *pair, right))

    def test_sixty_rooms(self):
        with plain.within(60):
            for ways in great_trees():
                for room in papers.rooms_of(ways)[::7]:
                    told = about(Tree(ways), room)
                    self.assertIsNone(self.hold(ways, room, (*told[:-1], told[-1][::-1])))
                    self.assertIsNotNone(self.hold(ways, (room + 1) % 59, (*told[:-1], told[-1][1:])))
                    self.hold(ways, (room + 1) % 59, told)
                    setting, lot = most(Tree(ways))
                    self.hold(ways, room, ("always", setting, lot))
                    self.hold(ways, room, ("never", plain.near(ways, room)[0], setting, lot))

    def test_what_is_no_room(self):
        for answer in (None, ("always", (0,), []), ("some", (0, 2), (1, 3), [(0, 1), (2, 3)])):
            for ways in ([], plain.lane(4)):
                for thing in (*plain.ODD_THINGS, len(ways) + 1):
                    self.refused(NoRoom, {"room": thing}, check_about, Tree(ways), thing, answer)


class Always(MostCase):
    """Point [74]."""

    def hold(self, ways, word, told):
        """Hold rooms against what is told about each."""
        self.assertEqual((type(told), {type(room) for room in told} - {int}), (tuple, set()))
        self.assertEqual(list(told), [room for room in papers.rooms_of(ways) if about(Tree(ways), room)[0] == word])

    def test_rooms_out_of_all_greatest_settings(self):
        for ways in trees():
            settings = greatest.greatest(ways)
            words = {room: greatest.word_of(room, settings) for room in papers.rooms_of(ways)}
            self.assertEqual(always(Tree(ways)), tuple([room for room in words if words[room] == "always"]))
            self.assertEqual(never(Tree(ways)), tuple([room for room in words if words[room] == "never"]))
            self.assertEqual(greatest_many(Tree(ways)), len(settings))
            self.assertIs(type(greatest_many(Tree(ways))), int)

    def test_beside_one_another(self):
        for ways in [*trees(), *great_trees()]:
            first, second = always(Tree(ways)), never(Tree(ways))
            near = sorted({room for one in first for room in plain.near(ways, one)})
            self.assertEqual(list(second), near)
            self.assertTrue(greatest.is_setting(ways, first))

    def test_some_trees(self):
        for ways, first, second, many in (
            ([], (0,), (), 1),
            ([(0, 1)], (), (), 2),
            (plain.lane(3), (0, 2), (1,), 1),
            (plain.lane(6), (), (), 4),
            (plain.star(60), tuple(range(1, 60)), (0,), 1),
            (plain.lane(60), (), (), 31),
            (plain.lane(59), tuple(range(0, 59, 2)), tuple(range(1, 59, 2)), 1),
            (plain.comb(60), (), (), 2178309),
            (STAR_AND_LANE, (1, 2), (0,), 3),
        ):
            tree = Tree(ways)
            self.assertEqual((always(tree), never(tree), greatest_many(tree)), (first, second, many))

    def test_numbers_known_ahead(self):
        for rooms in range(2, 60, 2):
            # One by one the guards of a lane stand in the first rooms of their pairs, then in the second ones.
            self.assertEqual(greatest_many(Tree(plain.lane(rooms))), rooms // 2 + 1)
            self.assertEqual(greatest_many(Tree(plain.lane(rooms + 1))), 1)
            # Of a comb any setting of the lane goes, with teeth for its other rooms.
            numbers = [greatest.of_lane(rooms // 2, many) for many in range(rooms)]
            self.assertEqual(greatest_many(Tree(plain.comb(rooms))), sum(numbers))
            self.assertEqual(greatest_many(Tree(plain.star(rooms + 1))), 1)

    def test_sixty_rooms(self):
        with plain.within(120):
            for ways in great_trees():
                self.hold(ways, "always", always(Tree(ways)))
                self.hold(ways, "never", never(Tree(ways)))
                many = len(most(Tree(ways))[0])
                self.assertEqual(greatest_many(Tree(ways)), how_many(Tree(ways), many))
                self.assertEqual(how_many(Tree(ways), many + 1), 0)


if __name__ == "__main__":
    unittest.main()
