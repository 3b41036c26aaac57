"""Points [45] to [47]: bars, and the fewest guards that must be taken out."""

import itertools
import sys
import unittest

from apartguards.errors import NoPaper, NoRoom
from apartguards.freeing import check_out, fewest_out
from apartguards.locks import lock
from apartguards.trees import Tree
from tests import papers, plain
from tests.case import GuardCase

# Room 0 in the middle, 1 and 2 beside it. Behind 1 stand 3, 4, 5, and behind 2 stand 6 and 7.
FORK = [(0, 1), (0, 2), (1, 3), (1, 4), (1, 5), (2, 6), (2, 7)]

# The same where 3 and 6 have one room more, 8 and 9, with 10 and 11 behind these.
LONG_FORK = FORK + [(3, 8), (6, 9), (8, 10), (9, 11)]


def trees():
    """Small trees, and some with many rooms beside one, all with few settings."""
    return plain.small_trees() + [FORK, plain.star(5) + [(4, 5), (5, 6), (5, 7)], plain.comb(9)]


def tried():
    """Trees with a setting and a guard of it: of a few trees all, of most some."""
    rows = []
    for at, ways in enumerate(trees()):
        settings = plain.settings(ways)
        some = settings if len(settings) < 60 else settings[at % 3 :: 3]
        rows += [(ways, setting, guard) for setting in some for guard in setting]
    return rows


def great_tries():
    """Trees of sixty rooms, each with a setting."""
    rows = [(ways, papers.drawn_setting(ways, many, many)) for ways in plain.great_trees() for many in (5, 60)]
    rows += [(plain.star(60), tuple(range(1, 60))), (plain.star(60), (0,)), (plain.lane(60), (0, 30, 59))]
    rows += [(plain.lane(59), tuple(range(0, 59, 2))), (plain.lane(60), tuple(range(0, 60, 2)))]
    spider = [(0, room) if room % 2 else (room - 1, room) for room in range(1, 59)]
    return rows + [(spider, (0, *range(2, 59, 2))), (spider, tuple(range(1, 59, 2)))]


def crowds():
    """Trees of many rooms with many guards beside one room, each with a setting and a guard of it."""
    twos = [(0, k) for k in range(1, 20)] + [(k, k + more) for more in (19, 38) for k in range(1, 20)]
    rows = [(plain.star(60), tuple(range(1, 60)), 1), (twos, (0, *range(20, 58)), 0), (twos, (0, *range(20, 58)), 57)]
    # Two stars around 0 and 30, their middles side by side, or with room 1 between them.
    stars = plain.star(30) + [(30, room) for room in range(31, 60)]
    leaves = (*range(1, 30), *range(31, 60))
    rows += [(stars + [(0, 30)], leaves, guard) for guard in (1, 29, 59)]
    rows += [(stars + [(1, 30)], leaves, guard) for guard in (1, 2, 59)]
    return rows


def calls_of(call, *things):
    """How many calls, of whatever functions, one call comes to."""
    seen = []
    kept = sys.getprofile()
    sys.setprofile(lambda _frame, event, _thing: seen.append(event) if event in ("call", "c_call") else None)
    try:
        call(*things)
    finally:
        sys.setprofile(kept)
    return len(seen)


class FewestOut(GuardCase):
    """Points [45] and [46]."""

    def hold_kinds(self, told):
        self.assertEqual([type(thing) for thing in (told, *told)], [tuple, tuple, list])
        self.assertEqual({type(lot) for lot in told[1]} | {type(bar) for lot in told[1] for bar in lot}, {list, tuple})
        for guards in [told[0], *[bar for lot in told[1] for bar in lot]]:
            self.assertEqual(list(guards), sorted(guards))

    def hold_fewest(self, ways, setting, guard):
        """Hold what is told against a plain look, and tell how many are taken out."""
        told = fewest_out(Tree(ways), setting, guard)
        self.assertIsNone(papers.place_of_out(ways, setting, guard, told), (ways, setting, guard))
        self.assertIsNone(check_out(Tree(ways), setting, guard, told))
        if told is None:
            return None
        if told[0]:
            self.hold_kinds(told)
        self.assertEqual([len(lot) for lot in told[1]], [len(told[0])] * len(plain.near(ways, guard)))
        return len(told[0])

    def test_as_few_as_can_be_out_of_all_sets_of_guards(self):
        for ways, setting, guard in tried():
            self.assertEqual(self.hold_fewest(ways, setting, guard), papers.fewest(ways, setting, guard))

    def test_whoever_takes_out_fewer_leaves_a_bar_whole_at_each_room(self):
        for ways, setting, guard in tried()[::5]:
            told = fewest_out(Tree(ways), setting, guard)
            others = [one for one in setting if one != guard]
            for taken in itertools.combinations(others, max(0, len(told[0]) - 1) if told else 0):
                if told and told[0]:
                    for lot in told[1]:
                        self.assertTrue([bar for bar in lot if not set(bar) & set(taken)])

    def test_bars_are_bars(self):
        for ways, setting, guard in tried()[::3]:
            told = fewest_out(Tree(ways), setting, guard)
            for room, lot in zip(plain.near(ways, guard), told[1] if told else []):
                self.assertEqual([bar for bar in lot if bar not in papers.bars_of(ways, setting, guard, room)], [])

    def test_a_guard_and_its_bars_are_a_lock_together(self):
        for ways, setting, guard in tried()[::3]:
            told = fewest_out(Tree(ways), setting, guard)
            if told and told[0]:
                for bars in itertools.product(*told[1]):
                    together = {guard, *[one for bar in bars for one in bar]}
                    self.assertTrue(papers.is_lock(ways, sorted(together)))

    def test_one_room(self):
        self.assertIsNone(fewest_out(Tree([]), (0,), 0))

    def test_a_guard_that_is_not_locked(self):
        self.assertEqual(fewest_out(Tree([(0, 1)]), (0,), 0), ((), [[]]))
        self.assertEqual(fewest_out(Tree(FORK), (0,), 0), ((), [[], []]))
        self.assertEqual(fewest_out(Tree(FORK), (0, 3, 4), 0), ((), [[], []]))
        for ways, setting, guard in tried():
            if ways and guard not in papers.lock(ways, setting):
                told = fewest_out(Tree(ways), setting, guard)
                self.assertEqual(told, ((), [[] for _ in plain.near(ways, guard)]))

    def test_the_room_with_the_fewest_bars(self):
        self.assertEqual(fewest_out(Tree(FORK), (0, 3, 4, 5, 6), 0), ((6,), [[(3,)], [(6,)]]))
        taken, bars = fewest_out(Tree(FORK), (0, 3, 4, 5, 6, 7), 0)
        self.assertEqual((taken, bars[1], len(bars[0])), ((6, 7), [(6,), (7,)], 2))
        # From 6 the guard could slide away, but for one in 11: then 6 and 11 together are a bar.
        self.assertEqual(fewest_out(Tree(LONG_FORK), (0, 4, 6), 0), ((), [[], []]))
        taken, bars = fewest_out(Tree(LONG_FORK), (0, 4, 6, 11), 0)
        self.assertEqual((len(taken), bars), (1, [[(4,)], [(6, 11)]]))
        self.assertEqual(fewest_out(Tree(LONG_FORK), (0, 4, 5, 6, 11), 0)[1][1], [(6, 11)])

    def test_guards_in_leaves(self):
        tree = Tree(plain.star(60))
        for many in (1, 2, 5, 59):
            setting = tuple(range(1, many + 1))
            told = fewest_out(tree, setting, 1)
            self.assertEqual(told, (tuple(range(2, many + 1)), [[(one,) for one in range(2, many + 1)]]))
        self.assertEqual(fewest_out(Tree(plain.lane(3)), (0, 2), 2), ((0,), [[(0,)]]))

    def test_sixty_rooms(self):
        with plain.within(120):
            for ways, setting in great_tries():
                for guard in setting[:: 1 + len(setting) // 8]:
                    many = self.hold_fewest(ways, setting, guard)
                    self.assertEqual(many > 0, guard in papers.lock(ways, setting))
            lane = tuple(range(0, 59, 2))
            self.assertEqual(self.hold_fewest(plain.lane(59), lane, 30), 1)
            self.assertEqual(fewest_out(Tree(plain.lane(59)), lane, 0), ((2,), [[lane[1:]]]))

    def test_many_guards_beside_one_room(self):
        with plain.within(60):
            many = [self.hold_fewest(ways, setting, guard) for ways, setting, guard in crowds()]
        self.assertEqual(many, [58, 2, 2, 28, 28, 28, 28, 28, 29])

    def test_not_much_longer_than_a_lock_where_many_guards_stand_beside_one_room(self):
        # Who looks at the whole setting for each of these guards makes about a hundred times as many calls.
        rows = crowds() + [(ways, setting, setting[-1]) for ways, setting in great_tries()]
        for ways, setting, guard in rows:
            tree = Tree(ways)
            self.assertLess(calls_of(fewest_out, tree, setting, guard), 5 * calls_of(lock, tree, setting))

    def test_what_is_told_is_the_same_again(self):
        for ways, setting, guard in tried()[::7]:
            told = fewest_out(Tree(ways), setting, guard)
            self.assertEqual(fewest_out(Tree(ways[::-1]), setting, guard), told)

    def test_what_is_no_room_or_has_no_guard(self):
        for thing in (*plain.ODD_THINGS, 8, 1, 2, 7):
            for setting in ((0, 3, 6), ()):
                self.refused(NoRoom, {"room": thing}, fewest_out, Tree(FORK), setting, thing)
        self.refused(NoRoom, {"room": 0}, fewest_out, Tree([]), (), 0)
        self.refused(NoRoom, {"room": False}, fewest_out, Tree([]), (0,), False)

    def test_what_is_no_setting(self):
        self.settings_refused(fewest_out, 0)
        self.settings_refused(fewest_out, None)


class CheckOut(GuardCase):
    """Point [47]."""

    def hold(self, ways, setting, guard, answer):
        self.answered(papers.place_of_out(ways, setting, guard, answer), check_out, Tree(ways), setting, guard, answer)

    def answers(self, ways, setting, guard):
        """All bars that can be told for the guards that can be taken out, and answers that fail somewhere."""
        others = [one for one in setting if one != guard]
        rooms = plain.near(ways, guard)
        for many in range(3):
            lots = [self.lots(ways, setting, guard, room, many) for room in rooms]
            for taken in itertools.permutations(others, many):
                for bars in itertools.islice(itertools.product(*lots), 40):
                    yield (taken, [list(lot) for lot in bars])

    def lots(self, ways, setting, guard, room, many):
        """So many bars, or sets of guards that are none, in every order."""
        bars = papers.bars_of(ways, setting, guard, room)
        wrong = [(guard,), setting, ()]
        return list(itertools.permutations(bars + wrong, many))[:12] + [tuple(bars[:many]), tuple(bars[-many:])]

    def test_many_answers_against_a_plain_look(self):
        for ways, setting, guard in tried()[::4]:
            for answer in self.answers(ways, setting, guard):
                self.hold(ways, setting, guard, answer)

    def test_every_right_answer_is_told_none(self):
        found = 0
        for ways, setting, guard in tried():
            many = papers.fewest(ways, setting, guard)
            others = [one for one in setting if one != guard]
            lots = [papers.bars_of(ways, setting, guard, room) for room in plain.near(ways, guard)]
            for taken in itertools.permutations(others, many or 0):
                rows = [list(itertools.permutations(lot, many or 0))[-4:] for lot in lots]
                for bars in itertools.islice(itertools.product(*rows), 8):
                    answer = (taken, [[bar[::-1] for bar in lot] for lot in bars])
                    if papers.place_of_out(ways, setting, guard, answer) is None:
                        found += 1
                        self.assertIsNone(check_out(Tree(ways), setting, guard, answer))
        self.assertGreater(found, 1000)

    def test_answers_of_others(self):
        tree, setting = Tree(FORK), (0, 3, 4, 5, 6, 7)
        for taken in ((6, 7), (7, 6)):
            for one in ([(3,), (4,)], [(5,), (3,)]):
                for other in ([(6,), (7,)], [(7,), (6,)]):
                    self.assertIsNone(check_out(tree, setting, 0, (taken, [one, other])))
        tree = Tree(LONG_FORK)
        for taken in ((4,), (6,), (11,)):
            for bar in ((6, 11), (11, 6)):
                self.assertIsNone(check_out(tree, (0, 4, 6, 11), 0, (taken, [[(4,)], [bar]])))
        self.assertIsNone(check_out(tree, (0, 4, 6), 0, ((), [[], []])))

    def test_one_room(self):
        self.assertIsNone(check_out(Tree([]), (0,), 0, None))
        for answer in [*plain.ODD_THINGS[1:], ((), []), ((), [[]]), (None, None), Tree([])]:
            self.refused(NoPaper, {"at": -1}, check_out, Tree([]), (0,), 0, answer)

    def test_what_is_no_tuple_of_two(self):
        tree, right = Tree(FORK), ((6,), [[(3,)], [(6,)]])
        self.assertIsNone(check_out(tree, (0, 3, 6), 0, right))
        odd = [thing for thing in plain.ODD_THINGS if type(thing) is not tuple or len(thing) != 2]
        for answer in [*odd, list(right), (*right, None), right[:1], {right[0]: right[1]}, Tree([])]:
            self.refused(NoPaper, {"at": -1}, check_out, tree, (0, 3, 6), 0, answer)
            self.refused(NoPaper, {"at": -1}, check_out, tree, (0,), 0, answer)

    def test_what_is_no_tuple_of_others_that_free_the_guard(self):
        tree, setting, bars = Tree(FORK), (0, 3, 4, 6, 7), [[(3,), (4,)], [(6,), (7,)]]
        self.assertIsNone(check_out(tree, setting, 0, ((6, 7), bars)))
        odd = [thing for thing in plain.ODD_THINGS if thing != ()]
        odd += [(), (6,), (7,), (3, 6), (6, 3), [6, 7], {6: 7}, (6, 6), (7, 6, 7), (6, 7, 6), (0,), (6, 7, 0), (0, 6, 7)]
        odd += [(6, 7, thing) for thing in (*plain.ODD_THINGS, 1, 2, 5, 8)] + [((6, 7),), (6, [7]), ([6], 7)]
        for taken in odd:
            for told in (bars, None, []):
                self.refused(NoPaper, {"at": 0}, check_out, tree, setting, 0, (taken, told))
        for thing in (0, 1, 5, 8, "0", None, True, False):
            self.refused(NoPaper, {"at": 0}, check_out, tree, (0,), 0, ((thing,), [[], []]))

    def test_what_is_no_list_for_the_rooms(self):
        tree, setting = Tree(FORK), (0, 3, 6)
        odd = [thing for thing in plain.ODD_THINGS if type(thing) is not list or len(thing) != 2]
        odd += [[], [[(3,)]], [[(3,)], [(6,)], []], ([(3,)], [(6,)]), {0: [(3,)], 1: [(6,)]}, [(3,)], [[(3,), (6,)]]]
        for bars in odd:
            self.refused(NoPaper, {"at": 1}, check_out, tree, setting, 0, ((3,), bars))
        for bars in (None, [], [[]], [[], [], []], ([], [])):
            self.refused(NoPaper, {"at": 1}, check_out, tree, (0,), 0, ((), bars))

    def test_what_is_no_list_of_bars_of_a_room(self):
        tree, setting = Tree(FORK), (0, 3, 4, 6)
        odd = [*plain.ODD_THINGS, [], [()], [(3,), (4,)], ((3,),), [[3]], [(6,)], [(0,)], [(0, 3)], [(3, 4)], [(3, 3)]]
        odd += [[(3, 6)], [(5,)], [(1,)], [(8,)], [{3}], [{3: 4}], [3], [None], [("3",)], [([3],)], [(3, None)]]
        for lot in odd:
            self.refused(NoPaper, {"at": 2}, check_out, tree, setting, 0, ((6,), [lot, lot]))
            self.refused(NoPaper, {"at": 2}, check_out, tree, setting, 0, ((6,), [lot, [(6,)]]))
        for lot in [*odd, [(3,)], [(4,)], [(6,), (6,)], [(6, 7)]]:
            if lot != [(6,)]:
                self.refused(NoPaper, {"at": 3}, check_out, tree, setting, 0, ((6,), [[(3,)], lot]))

    def test_bars_in_the_same_branch(self):
        ways = [(0, 1), (1, 2), (1, 3), (2, 4), (4, 5), (4, 6), (3, 7)]
        tree, setting = Tree(ways), (0, 2, 3, 5, 6)
        # In the branch of 2 there are bars of two of its guards, and of all three.
        bars = papers.bars_of(ways, setting, 0, 1)
        self.assertEqual(bars, [(2, 5), (2, 6), (2, 5, 6)])
        self.assertIsNone(check_out(tree, setting, 0, ((2,), [[(6, 2)]])))
        self.refused(NoPaper, {"at": 2}, check_out, tree, setting, 0, ((5, 6), [[(2, 5), (2, 6)]]))
        self.refused(NoPaper, {"at": 2}, check_out, tree, setting, 0, ((2, 3), [[(2, 5), (3,)]]))
        self.refused(NoPaper, {"at": 2}, check_out, tree, setting, 0, ((2,), [[(5, 6)]]))
        self.refused(NoPaper, {"at": 2}, check_out, tree, setting, 0, ((2,), [[(2, 5, 3)]]))
        self.refused(NoPaper, {"at": 2}, check_out, tree, setting, 0, ((2,), [[(2,)]]))

    def test_a_bar_of_the_guards_own_branch(self):
        # Guards in 0 and 2 lock one another: of 0 and room 1 only 2 is the head of a bar.
        tree = Tree(plain.lane(5))
        self.assertIsNone(check_out(tree, (0, 2, 4), 2, ((0,), [[(0,)], [(4,)]])))
        self.refused(NoPaper, {"at": 2}, check_out, tree, (0, 2, 4), 2, ((0,), [[(2,)], [(4,)]]))
        self.refused(NoPaper, {"at": 2}, check_out, tree, (0, 2, 4), 2, ((0,), [[(2, 4)], [(4,)]]))
        self.refused(NoPaper, {"at": 2}, check_out, tree, (0, 2, 4), 2, ((0,), [[(4,)], [(4,)]]))
        self.refused(NoPaper, {"at": 3}, check_out, tree, (0, 2, 4), 2, ((0,), [[(0,)], [(0,)]]))
        self.refused(NoPaper, {"at": 2}, check_out, tree, (0, 2, 4), 0, ((2,), [[(2,)]]))
        self.assertIsNone(check_out(tree, (0, 2, 4), 0, ((4,), [[(4, 2)]])))

    def test_more_than_the_fewest(self):
        tree = Tree(FORK)
        self.refused(NoPaper, {"at": 2}, check_out, tree, (0, 3, 6), 0, ((3, 6), [[(3,), (3,)], [(6,), (6,)]]))
        self.refused(NoPaper, {"at": 3}, check_out, tree, (0, 3, 4, 6), 0, ((6, 3), [[(3,), (4,)], [(6,)]]))
        self.refused(NoPaper, {"at": 2}, check_out, tree, (0, 3), 0, ((3,), [[], []]))
        self.refused(NoPaper, {"at": 3}, check_out, tree, (0, 3), 0, ((3,), [[(3,)], []]))

    def test_sixty_rooms(self):
        with plain.within(120):
            for ways, setting in great_tries():
                for guard in setting[:: 1 + len(setting) // 5]:
                    taken, bars = fewest_out(Tree(ways), setting, guard)
                    turned = (taken[::-1], [[bar[::-1] for bar in lot][::-1] for lot in bars])
                    self.assertIsNone(check_out(Tree(ways), setting, guard, turned))
                    for answer in (
                        (taken[1:], bars),
                        (taken, bars[1:]),
                        (taken, bars[::-1]),
                        (taken, [lot[1:] for lot in bars]),
                        (taken, [[bar[1:] for bar in lot] for lot in bars]),
                        (taken, [[bar[:1] for bar in lot] for lot in bars]),
                    ):
                        self.hold(ways, setting, guard, answer)

    def test_what_is_no_room_or_has_no_guard(self):
        for answer in (None, ((6,), [[(3,)], [(6,)]])):
            for thing in (*plain.ODD_THINGS, 8, 1, 2, 7):
                for setting in ((0, 3, 6), ()):
                    self.refused(NoRoom, {"room": thing}, check_out, Tree(FORK), setting, thing, answer)
            self.refused(NoRoom, {"room": 0}, check_out, Tree([]), (), 0, answer)

    def test_what_is_no_setting(self):
        for guard, answer in ((0, None), (None, None), (0, ((), [[]]))):
            self.settings_refused(check_out, guard, answer)


if __name__ == "__main__":
    unittest.main()
