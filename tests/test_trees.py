"""Trees: children, ways, what hangs below, parts, leaves, turns, and trees put under a new root."""

import unittest

from boughblocks.errors import BadKnot, BadTree, BadTrees, TooGreat
from boughblocks.trees import below, children, in_turn, leaves, part, put_under, way
from tests.looks import (NO_LISTS, NO_TREES, VERY_GREAT, all_trees, chain, fork, great_trees, look_below,
                         look_counted, look_turn, look_way, refuses, scattered, spoiled_trees, star, tells,
                         wrong_knots)

OF_KNOT = (children, way, below, part)
OF_TREE = (leaves, in_turn)

# Knots in turn: 0, 1, 3, 5, 2, 4, 6.
TREE = [-1, 0, 0, 1, 2, 3, 2]


def look_put_under(trees):
    told = [-1]
    for tree in trees:
        root = len(told)
        told += [0 if knot == 0 else root + tree[knot] for knot in range(len(tree))]
    return told


class TestOneTree(unittest.TestCase):

    def test_told_by_hand(self):
        self.assertEqual(children(TREE, 2), [4, 6])
        self.assertEqual(children(TREE, 6), [])
        self.assertEqual(way(TREE, 5), [0, 1, 3, 5])
        self.assertEqual(way(TREE, 0), [0])
        self.assertEqual(below(TREE, 1), [1, 3, 5])
        self.assertEqual(below(TREE, 0), [0, 1, 2, 3, 4, 5, 6])
        self.assertEqual(part(TREE, 2), [-1, 0, 0])
        self.assertEqual(part(TREE, 1), [-1, 0, 1])
        self.assertEqual(leaves(TREE), [4, 5, 6])
        self.assertEqual(in_turn(TREE), ([0, 1, 3, 5, 2, 4, 6], [-1, 0, 1, 2, 0, 4, 4]))

    def test_one_knot(self):
        self.assertEqual(children([-1], 0), [])
        self.assertEqual(way([-1], 0), [0])
        self.assertEqual(below([-1], 0), [0])
        self.assertEqual(part([-1], 0), [-1])
        self.assertEqual(leaves([-1]), [0])
        self.assertEqual(in_turn([-1]), ([0], [-1]))

    def look_at(self, tree):
        parents = set(tree)
        for knot in range(len(tree)):
            tells(self, [other for other in range(len(tree)) if tree[other] == knot], children, tree, knot)
            tells(self, look_way(tree, knot), way, tree, knot)
            hanging = look_below(tree, knot)
            tells(self, hanging, below, tree, knot)
            tells(self, look_counted(tree, hanging), part, tree, knot)
        tells(self, [knot for knot in range(len(tree)) if knot not in parents], leaves, tree)
        turn = look_turn(tree)
        tells(self, (turn, look_counted(tree, turn)), in_turn, tree)

    def test_all_small_trees(self):
        for knots in range(1, 7):
            for tree in all_trees(knots):
                self.look_at(tree)

    def test_great_trees(self):
        for tree in great_trees():
            self.look_at(tree)

    def test_a_tree_that_was_changed_is_another_tree(self):
        tree = [-1, 0, 1]
        for function in OF_KNOT:
            function(tree, 1)
        for function in OF_TREE:
            function(tree)
        tree[2] = 0
        tree.append(1)
        self.look_at(tree)


class TestRefusals(unittest.TestCase):

    def test_no_tree(self):
        for tree in NO_TREES:
            for function in OF_KNOT:
                refuses(self, BadTree, function, tree, 0)
            for function in OF_TREE:
                refuses(self, BadTree, function, tree)

    def test_a_bad_parent_anywhere(self):
        for tree in spoiled_trees():
            for function in OF_KNOT:
                refuses(self, BadTree, function, tree, 0)
            for function in OF_TREE:
                refuses(self, BadTree, function, tree)

    def test_no_knot(self):
        for tree in ([-1], [-1, 0], TREE, chain(60), star(60), fork(59)):
            for knot in wrong_knots(tree):
                for function in OF_KNOT:
                    refuses(self, BadKnot, function, tree, knot)

    def test_no_tree_goes_before_no_knot(self):
        for tree in NO_TREES:
            for knot in (-1, 1, 60, True, None, "0", VERY_GREAT):
                for function in OF_KNOT:
                    refuses(self, BadTree, function, tree, knot)

    def test_sixty_knots_are_a_tree_and_one_more_are_none(self):
        for tree in (chain(60), star(60), fork(60), scattered(60, 7)):
            for function in OF_KNOT:
                function(tree, 59)
                refuses(self, BadTree, function, [*tree, 0], 59)
            for function in OF_TREE:
                function(tree)
                refuses(self, BadTree, function, [*tree, 0])


class TestPutUnder(unittest.TestCase):

    def test_told_by_hand(self):
        self.assertEqual(put_under([[-1, 0, 0], [-1], [-1, 0, 1]]), [-1, 0, 1, 1, 0, 0, 5, 6])

    def test_no_trees(self):
        tells(self, [-1], put_under, [])

    def test_small_trees(self):
        small = [tree for knots in range(1, 4) for tree in all_trees(knots)]
        for one in small:
            tells(self, look_put_under([one]), put_under, [one])
            for other in small:
                tells(self, look_put_under([one, other]), put_under, [one, other])
                for third in small:
                    tells(self, look_put_under([one, other, third]), put_under, [one, other, third])

    def test_one_tree_handed_in_several_times(self):
        tree = [-1, 0, 1]
        self.assertEqual(put_under([tree, tree, tree]), [-1, 0, 1, 2, 0, 4, 5, 0, 7, 8])
        self.assertEqual(tree, [-1, 0, 1])

    def test_fifty_nine_knots_together(self):
        for trees in ([chain(59)], [star(59)], [[-1]] * 59, [chain(58), [-1]], [[-1], fork(58)],
                      [scattered(20, 7), fork(20), star(19)]):
            self.assertEqual(sum(len(tree) for tree in trees), 59)
            told = look_put_under(trees)
            self.assertEqual(len(told), 60)
            tells(self, told, put_under, [list(tree) for tree in trees])

    def test_sixty_knots_together_and_more(self):
        for trees in ([chain(60)], [star(60)], [[-1]] * 60, [chain(59), [-1]], [[-1], fork(59)],
                      [scattered(20, 7), fork(20), star(20)], [chain(60), chain(60)], [[-1]] * 1000,
                      [fork(30), fork(31)]):
            refuses(self, TooGreat, put_under, trees)

    def test_no_list_of_trees(self):
        for trees in NO_LISTS:
            refuses(self, BadTrees, put_under, trees)
        for tree in ([-1], [-1, 0], chain(60), [0], [None], ["-1"]):
            refuses(self, BadTrees, put_under, tree)
        for trees in (([-1],), ([-1], [-1]), {0: [-1]}, "[-1]"):
            refuses(self, BadTrees, put_under, trees)

    def test_no_tree_among_them(self):
        for wrong in NO_TREES:
            refuses(self, BadTrees, put_under, [wrong])
            refuses(self, BadTrees, put_under, [wrong, [-1]])
            refuses(self, BadTrees, put_under, [[-1], wrong])
            refuses(self, BadTrees, put_under, [[-1], wrong, [-1, 0]])

    def test_a_bad_parent_anywhere(self):
        for tree in spoiled_trees():
            refuses(self, BadTrees, put_under, [tree])
            refuses(self, BadTrees, put_under, [[-1, 0], tree])

    def test_no_list_of_trees_goes_before_too_many_knots(self):
        for wrong in NO_TREES:
            refuses(self, BadTrees, put_under, [chain(60), wrong])
            refuses(self, BadTrees, put_under, [wrong, star(60), star(60)])
            refuses(self, BadTrees, put_under, [[-1]] * 100 + [wrong])


if __name__ == "__main__":
    unittest.main()
