"""The interface's rows but errors: names, parameters, where they are defined."""

import inspect
import unittest

from apartguards import come, counts, freeing, lanes, leaps, locks, most, settings, trees
from apartguards.trees import Tree

METHODS = {
    "__init__": "(self, ways)",
    "ways": "(self)",
    "__len__": "(self)",
    "__eq__": "(self, other)",
    "beside": "(self, room)",
    "branch": "(self, room, *, away)",
    "between": "(self, one, other)",
    "pieces": "(self, without)",
    "with_room": "(self, room)",
}

FUNCTIONS = {
    settings: {
        "check_setting": "(tree, setting)",
        "slides": "(tree, setting)",
        "leaps_from": "(tree, setting)",
        "slid": "(tree, setting, moves)",
        "leapt": "(tree, setting, moves)",
        "all_settings": "(tree, many, *, most=1000)",
        "reached": "(tree, setting, *, most=1000)",
    },
    locks: {
        "lock": "(tree, setting)",
        "peel": "(tree, setting)",
        "check_peel": "(tree, setting, answer)",
        "check_lock": "(tree, setting, guards)",
        "branch_lock": "(tree, setting, room, *, away)",
        "branch_locked": "(tree, setting, guard, *, away)",
        "freed": "(tree, setting, guard)",
    },
    come: {
        "key": "(tree, setting)",
        "come": "(tree, one, other)",
        "check_come": "(tree, one, other, answer)",
    },
    freeing: {
        "fewest_out": "(tree, setting, guard)",
        "check_out": "(tree, setting, guard, answer)",
    },
    leaps: {
        "leaps": "(tree, one, other)",
        "check_leaps": "(tree, one, other, answer)",
    },
    lanes: {
        "needs": "(tree, one, other)",
        "least": "(tree, one, other)",
        "lane_slides": "(tree, one, other)",
    },
    most: {
        "most": "(tree)",
        "check_most": "(tree, answer)",
        "about": "(tree, room)",
        "check_about": "(tree, room, answer)",
        "always": "(tree)",
        "never": "(tree)",
        "greatest_many": "(tree)",
    },
    counts: {
        "how_many": "(tree, many)",
        "how_many_free": "(tree, many)",
        "how_many_come": "(tree, setting)",
    },
}


class Interface(unittest.TestCase):
    def test_tree_has_its_methods_in_its_own_body(self):
        self.assertEqual(Tree.__module__, trees.__name__)
        for name, parameters in METHODS.items():
            self.assertIn(name, vars(Tree))
            self.assertEqual(str(inspect.signature(vars(Tree)[name])), parameters, name)

    def test_each_function_stands_in_its_own_file(self):
        for module, functions in FUNCTIONS.items():
            for name, parameters in functions.items():
                told = getattr(module, name)
                self.assertEqual(told.__module__, module.__name__, name)
                self.assertEqual(str(inspect.signature(told)), parameters, name)

    def test_all_parameters_may_be_handed_in_by_their_names(self):
        tree = Tree(ways=[(0, 1), (1, 2)])
        self.assertEqual(tree.beside(room=1), [0, 2])
        self.assertEqual(tree.branch(away=1, room=2), [2])
        self.assertEqual(tree.between(other=0, one=2), [2, 1, 0])
        self.assertEqual(tree.pieces(without=[1]), [[0], [2]])
        self.assertEqual(tree.with_room(room=0).ways(), [(0, 1), (1, 2), (0, 3)])
        self.assertIsNone(settings.check_setting(setting=(0, 2), tree=tree))
        self.assertEqual(settings.slides(setting=(0,), tree=tree), [(0, 1)])
        self.assertEqual(settings.leaps_from(setting=(0,), tree=tree), [(0, 1), (0, 2)])
        self.assertEqual(settings.slid(moves=[(0, 1)], setting=(0,), tree=tree), (1,))
        self.assertEqual(settings.leapt(moves=[(0, 2)], setting=(0,), tree=tree), (2,))
        self.assertEqual(settings.all_settings(most=3, many=2, tree=tree), [(0, 2)])
        self.assertEqual(settings.reached(most=3, setting=(2,), tree=tree), [(0,), (1,), (2,)])
        self.assertEqual(locks.lock(setting=(0, 2), tree=tree), (0, 2))
        self.assertEqual(locks.peel(setting=(0,), tree=tree), [(0, 1)])
        self.assertIsNone(locks.check_peel(answer=[(0, 1)], setting=(0,), tree=tree))
        self.assertIsNone(locks.check_lock(guards=(2, 0), setting=(0, 2), tree=tree))
        self.assertEqual(locks.branch_lock(away=1, room=0, setting=(0, 2), tree=tree), (0,))
        self.assertIs(locks.branch_locked(away=1, guard=0, setting=(0, 2), tree=tree), True)
        self.assertEqual(locks.freed(guard=0, setting=(0,), tree=tree), [(0, 1)])
        self.assertEqual(come.key(setting=(0, 2), tree=tree), ((0, 2), ()))
        self.assertEqual(come.come(other=(), one=(0, 2), tree=tree), ("lock", 0, (0, 2)))
        self.assertIsNone(come.check_come(answer=("lock", 1, (2, 0)), other=(0, 2), one=(), tree=tree))
        self.assertEqual(freeing.fewest_out(guard=0, setting=(0, 2), tree=tree), ((2,), [[(2,)]]))
        self.assertIsNone(freeing.check_out(answer=((2,), [[(2,)]]), guard=0, setting=(0, 2), tree=tree))
        self.assertEqual(leaps.leaps(other=(2,), one=(0,), tree=tree), [(0, 2)])
        self.assertEqual(leaps.check_leaps(answer=[(0, 2)], other=(2,), one=(0,), tree=tree), 1)
        self.assertEqual(lanes.needs(other=(1,), one=(0,), tree=tree), [((0, 1), 1), ((1, 2), 0)])
        self.assertEqual(lanes.least(other=(2,), one=(0,), tree=tree), 2)
        self.assertEqual(lanes.lane_slides(other=(2,), one=(0,), tree=tree), [(0, 1), (1, 2)])
        self.assertEqual(most.most(tree=tree), ((0, 2), [(1, 2)]))
        self.assertEqual(most.check_most(answer=((0, 2), [(0, 1)]), tree=tree), 2)
        self.assertEqual(most.about(room=0, tree=tree), ("always", (0, 2), [(1, 2)]))
        self.assertEqual(most.check_about(answer=("never", 0, (0, 2), [(1, 2)]), room=1, tree=tree), "never")
        self.assertEqual((most.always(tree=tree), most.never(tree=tree)), ((0, 2), (1,)))
        self.assertEqual(most.greatest_many(tree=tree), 1)
        self.assertEqual(counts.how_many(many=1, tree=tree), 3)
        self.assertEqual(counts.how_many_free(many=2, tree=tree), 0)
        self.assertEqual(counts.how_many_come(setting=(1,), tree=tree), 3)

    def test_what_stands_behind_a_star_is_not_handed_in_by_place(self):
        tree = Tree([(0, 1)])
        for call, things in (
            (tree.branch, (0, 1)),
            (settings.all_settings, (tree, 1, 1000)),
            (settings.reached, (tree, (0,), 1000)),
            (locks.branch_lock, (tree, (0,), 0, 1)),
            (locks.branch_locked, (tree, (0,), 0, 1)),
        ):
            with self.assertRaises(TypeError):
                call(*things)


if __name__ == "__main__":
    unittest.main()
