"""Layings: blocks counted anew, blocks read, heights, parted layings, prices."""

import unittest

from boughblocks.errors import BadLaying, BadTree, BadWeights
from boughblocks.layings import hanging, height, named, price, reads
from tests.looks import (NO_TREES, VERY_GREAT, all_layings, all_trees, chain, fork, great_layings, great_trees,
                         look_hanging, look_named, look_reads, refuses, spoiled_trees, star, tells,
                         wrong_layings, wrong_numbers, wrong_weights)

OF_LAYING = (reads, height, hanging)

TREE = [-1, 0, 0, 1, 2, 3, 2]
LAYING = [0, 0, 1, 2, 1, 0, 0]
ROOTS = ([-1], [-1, 0], [-1, 0, 0], [-1, 0, 1, 1])
BAD_LAYINGS = ([], [1], [0] * 61, [True], [False], None, "0", (0,), [-1], [0, 2], VERY_GREAT)


def look_price(tree, laying, weights):
    total = 0
    for knot, many in enumerate(look_reads(tree, laying)):
        for _ in range(many):
            total += weights[knot]
    return total


def some_weights(knots):
    """Weights of 0, small ones, and very great ones."""
    return [[0] * knots, [1] * knots, list(range(knots)), [VERY_GREAT + knot for knot in range(knots)],
            [(knot * 7 + 3) % 5 * 10 ** knot for knot in range(knots)]]


class TestTold(unittest.TestCase):

    def test_told_by_hand(self):
        self.assertEqual(reads(TREE, LAYING), [1, 1, 2, 2, 2, 3, 3])
        self.assertEqual(height(TREE, LAYING), 3)
        self.assertEqual(hanging(TREE, LAYING), [0, 0, 1, 2, 1, 3, 4])
        self.assertEqual(price(TREE, LAYING, [1, 10, 100, 1000, 10000, 100000, 10 ** 30]), 3 * 10 ** 30 + 322211)
        self.assertEqual(named([-1, 0, 0, 0], [7, -7, 7, 0]), [0, 1, 0, 2])

    def test_one_knot(self):
        self.assertEqual(named([-1], [-5]), [0])
        self.assertEqual(reads([-1], [0]), [1])
        self.assertEqual(height([-1], [0]), 1)
        self.assertEqual(hanging([-1], [0]), [0])
        self.assertEqual(price([-1], [0], [9]), 9)
        self.assertEqual(price([-1], [0], [0]), 0)
        self.assertEqual(price([-1], [0], [VERY_GREAT]), VERY_GREAT)

    def test_siblings_in_one_block_do_not_hang_together(self):
        self.assertEqual(hanging([-1, 0, 0], [0, 1, 1]), [0, 1, 2])
        self.assertEqual(hanging([-1, 0, 0], [0, 0, 0]), [0, 0, 0])

    def test_a_block_that_is_left_and_met_again_is_read_again(self):
        self.assertEqual(reads([-1, 0, 1], [0, 1, 0]), [1, 2, 3])
        self.assertEqual(hanging([-1, 0, 1], [0, 1, 0]), [0, 1, 2])

    def look_at(self, tree, laying, prices=True):
        read = look_reads(tree, laying)
        tells(self, read, reads, tree, laying)
        tells(self, max(read), height, tree, laying)
        parted = look_hanging(tree, laying)
        tells(self, parted, hanging, tree, laying)
        self.assertEqual(reads(tree, parted), read)
        tells(self, parted, hanging, tree, parted)
        tells(self, list(laying), named, tree, laying)
        if prices:
            for weights in some_weights(len(tree)):
                tells(self, look_price(tree, laying, weights), price, tree, laying, weights)

    def test_all_small_layings(self):
        for knots in range(1, 6):
            for tree in all_trees(knots):
                for laying in all_layings(knots):
                    self.look_at(tree, laying, knots < 5)

    def test_great_layings(self):
        for tree in great_trees():
            for laying in great_layings(tree):
                self.look_at(tree, laying)

    def test_one_block_and_a_block_for_each_knot(self):
        self.assertEqual(height(chain(60), [0] * 60), 1)
        self.assertEqual(height(chain(60), list(range(60))), 60)
        self.assertEqual(height(star(60), list(range(60))), 2)
        self.assertEqual(reads(chain(60), list(range(60))), list(range(1, 61)))
        self.assertEqual(hanging(chain(60), [0] * 60), [0] * 60)
        self.assertEqual(hanging(chain(60), list(range(60))), list(range(60)))
        self.assertEqual(hanging(chain(60), [0, 1] * 30), list(range(60)))

    def test_what_was_changed_is_asked_anew(self):
        tree, laying, weights = [-1, 0, 1], [0, 0, 0], [1, 1, 1]
        for _ in range(2):
            self.assertEqual(reads(tree, laying), look_reads(tree, laying))
            self.assertEqual(height(tree, laying), max(look_reads(tree, laying)))
            self.assertEqual(hanging(tree, laying), look_hanging(tree, laying))
            self.assertEqual(named(tree, laying), laying)
            self.assertEqual(price(tree, laying, weights), look_price(tree, laying, weights))
            tree[2], laying[1:], weights[2] = 0, [1, 2], 50


class TestNamed(unittest.TestCase):

    def test_any_numbers(self):
        wide = 2 ** 61 - 1
        for blocks in ([-1, -2, -1, -2], [5, 5, 5, 5], [3, 2, 1, 0], [-3, -2, -1, 0], [0, wide, 2 * wide, -wide],
                       [VERY_GREAT, VERY_GREAT + 1, -VERY_GREAT, VERY_GREAT], [2 ** 64, 0, 2 ** 32, 1],
                       [VERY_GREAT, -1, VERY_GREAT, -2], [2 ** 53, 2 ** 53 + 1, 2 ** 53, 2 ** 53 + 1], [1, 0, 1, 0]):
            for tree in all_trees(4):
                tells(self, look_named(blocks), named, tree, blocks)

    def test_all_small_blocks(self):
        for tree in ([-1, 0, 1], [-1, 0, 0]):
            for one in range(-2, 4):
                for other in range(-2, 4):
                    for third in range(-2, 4):
                        blocks = [one, other, third]
                        tells(self, look_named(blocks), named, tree, blocks)

    def test_sixty_knots(self):
        for tree in great_trees():
            knots = len(tree)
            for blocks in ([-7] * knots, list(range(knots, 0, -1)), [(-3) ** (knot % 9) for knot in range(knots)]):
                tells(self, look_named(blocks), named, tree, blocks)


class TestRefusals(unittest.TestCase):

    def test_no_tree(self):
        for tree in NO_TREES:
            knots = len(tree) if isinstance(tree, list) else 1
            for laying in ([0] * knots, [0]):
                refuses(self, BadTree, named, tree, laying)
                refuses(self, BadTree, price, tree, laying, [0] * knots)
                for function in OF_LAYING:
                    refuses(self, BadTree, function, tree, laying)

    def test_a_bad_parent_anywhere(self):
        for tree in spoiled_trees():
            refuses(self, BadTree, named, tree, [0] * 60)
            refuses(self, BadTree, price, tree, [0] * 60, [0] * 60)
            for function in OF_LAYING:
                refuses(self, BadTree, function, tree, [0] * 60)

    def test_sixty_one_knots(self):
        for tree in (chain(61), star(61), fork(61)):
            refuses(self, BadTree, named, tree, [0] * 61)
            refuses(self, BadTree, price, tree, [0] * 61, [0] * 61)
            for function in OF_LAYING:
                refuses(self, BadTree, function, tree, [0] * 61)

    def test_no_laying(self):
        for tree in ROOTS:
            for laying in wrong_layings(len(tree)):
                refuses(self, BadLaying, price, tree, laying, [0] * len(tree))
                for function in OF_LAYING:
                    refuses(self, BadLaying, function, tree, laying)

    def test_no_laying_of_sixty_knots(self):
        for laying in wrong_layings(60):
            refuses(self, BadLaying, price, fork(60), laying, [0] * 60)
            for function in OF_LAYING:
                refuses(self, BadLaying, function, fork(60), laying)

    def test_blocks_that_are_not_counted_as_they_are_met(self):
        for tree in all_trees(4):
            right = all_layings(4)
            for one in range(-1, 3):
                for other in range(-1, 4):
                    for third in range(-1, 5):
                        for last in range(-1, 6):
                            laying = [one, other, third, last]
                            if laying in right:
                                continue
                            refuses(self, BadLaying, price, tree, laying, [1, 1, 1, 1])
                            for function in OF_LAYING:
                                refuses(self, BadLaying, function, tree, laying)

    def test_no_blocks(self):
        for tree in ROOTS + (chain(60),):
            for blocks in wrong_numbers(len(tree)):
                refuses(self, BadLaying, named, tree, blocks)

    def test_no_weights(self):
        for tree in ROOTS + (chain(60),):
            for weights in wrong_weights(len(tree)):
                refuses(self, BadWeights, price, tree, [0] * len(tree), weights)

    def test_no_tree_goes_first(self):
        for tree in NO_TREES:
            for laying in BAD_LAYINGS:
                refuses(self, BadTree, named, tree, laying)
                for function in OF_LAYING:
                    refuses(self, BadTree, function, tree, laying)
                for weights in (None, [], [-1], [True], [0] * 61):
                    refuses(self, BadTree, price, tree, laying, weights)
            refuses(self, BadTree, price, tree, [0], [-1])

    def test_no_laying_goes_before_no_weights(self):
        for tree in ([-1, 0, 0], fork(60)):
            for laying in BAD_LAYINGS:
                for weights in (None, [], [-1] * len(tree), [True] * len(tree), [0] * 61, (1,), "1"):
                    refuses(self, BadLaying, price, tree, laying, weights)


if __name__ == "__main__":
    unittest.main()
