"""The least price by weights."""

import unittest
from itertools import product

from boughblocks.answers import Best
from boughblocks.errors import BadRoom, BadTree, BadWeights
from boughblocks.layings import hanging, price
from boughblocks.weighing import cheapest
from tests.looks import (NO_TREES, VERY_GREAT, all_trees, chain, fork, great_trees, look_reads, look_way, refuses,
                         spoiled_trees, star, wrong_weights)
from tests.looks_least import (WRONG_ROOMS, answered, brooms, comb, cut, full_tree, is_right_laying,
                               least_price_of, look_price, some_trees, table_price, tried, wrong_trees)

ROOTS = ([-1], [-1, 0], [-1, 0, 0], [-1, 0, 1, 1])


def some_weights(knots):
    """Weights of many kinds: equal, small, here and there, very great ones among small ones."""
    return [[1] * knots, list(range(knots)), list(range(knots, 0, -1)),
            [(knot * 7 + 3) % 5 for knot in range(knots)],
            [(knot * knot * 13 + 5 * knot) % 97 if knot % 3 else 0 for knot in range(knots)],
            [10 ** (knot % 7) for knot in range(knots)],
            [VERY_GREAT + knot * knot % 11 for knot in range(knots)]]


class Look(unittest.TestCase):

    def look_at(self, tree, room, weights, right):
        told = answered(self, Best, cheapest, tree, room, weights)
        self.assertTrue(told.price == right, "not the least price")
        is_right_laying(self, tree, room, told.laying)
        self.assertTrue(look_price(look_reads(tree, told.laying), weights) == right)
        self.assertTrue(price(tree, told.laying, weights) == right)
        self.assertEqual(hanging(tree, told.laying), told.laying)


class TestCheapest(Look):

    def test_told_by_hand(self):
        self.look_at([-1, 0, 0], 2, [1, 5, 3], 12)
        self.assertEqual(cheapest([-1, 0, 0], 2, [1, 5, 3]).laying, [0, 0, 1])
        self.assertEqual(cheapest([-1, 0, 0], 2, [1, 3, 5]).laying, [0, 1, 0])
        self.look_at([-1, 0, 0], 3, [1, 5, 3], 9)
        self.look_at([-1, 0, 0], 1, [1, 5, 3], 17)
        self.look_at([-1, 0, 1], 2, [0, 0, 1], 2)
        self.look_at([-1, 0, 1, 2], 2, [1, 1, 1, 1], 6)
        self.look_at([-1, 0, 0, 1, 1], 3, [0, 4, 5, 3, 3], 21)
        self.look_at([-1, 0, 0, 1, 1], 2, [0, 4, 5, 3, 3], 26)
        # The root's block takes the child with less below it: with the other one, knot 3 lies apart.
        self.look_at([-1, 0, 0, 1], 2, [0, 1, 3, 4], 13)
        self.assertEqual(cheapest([-1, 0, 0, 1], 2, [0, 1, 3, 4]).laying, [0, 1, 0, 1])
        # The cheapest laying is higher than the least height, which is 2.
        self.look_at([-1, 0, 1, 2, 0], 2, [0, 0, 0, 1, 9], 12)
        self.assertEqual(max(look_reads([-1, 0, 1, 2, 0], cheapest([-1, 0, 1, 2, 0], 2, [0, 0, 0, 1, 9]).laying)), 3)

    def test_one_knot(self):
        for room in range(1, 61):
            for weight in (0, 1, 7, VERY_GREAT):
                self.look_at([-1], room, [weight], weight)
                self.assertEqual(cheapest([-1], room, [weight]).laying, [0])

    def test_small_trees_all_layings_tried(self):
        for knots in range(1, 6):
            for tree in all_trees(knots):
                looked = tried(tree)
                for room in (*range(1, knots + 2), 60):
                    for weights in some_weights(knots)[:-1]:
                        self.look_at(tree, room, weights, least_price_of(looked, room, weights))

    def test_small_trees_all_small_weights(self):
        for knots in range(1, 5):
            for tree in all_trees(knots):
                looked = tried(tree)
                for room in range(1, knots + 1):
                    for weights in product(range(3), repeat=knots):
                        self.look_at(tree, room, list(weights), least_price_of(looked, room, weights))

    def test_trees_of_six_knots_all_layings_tried(self):
        for tree in all_trees(6):
            looked = tried(tree)
            for room in (2, 3, 4, 5):
                for weights in ([1, 1, 1, 1, 1, 1], [0, 3, 4, 1, 5, 2]):
                    self.look_at(tree, room, weights, least_price_of(looked, room, weights))

    def test_trees_all_cuts_tried(self):
        for tree in some_trees():
            tree = tree[:10]
            looked = cut(tree)
            for room in (1, 2, 3, 4, 5, 7, 9, 10):
                for weights in some_weights(len(tree))[:-1]:
                    right = least_price_of(looked, room, weights)
                    self.assertEqual(table_price(tree, room, weights), right)
                    self.look_at(tree, room, weights, right)

    def test_trees_by_a_table(self):
        for tree in some_trees():
            for at, weights in enumerate(some_weights(len(tree))):
                for room in (1, 2, 3, 5, 8, 30, 59, 60)[at % 2::2]:
                    self.look_at(tree, room, weights, table_price(tree, room, weights))

    def test_great_trees_at_each_room(self):
        for tree in great_trees()[6:]:
            weights = some_weights(len(tree))[4]
            before = None
            for room in range(1, 61, 4):
                told = cheapest(tree, room, weights)
                self.assertEqual(told.price, table_price(tree, room, weights))
                self.assertEqual(told.price, look_price(look_reads(tree, told.laying), weights))
                is_right_laying(self, tree, room, told.laying)
                self.assertTrue(before is None or told.price <= before)
                before = told.price

    def test_weights_of_0_alone(self):
        for tree in some_trees():
            for room in (1, 2, 7, 59, 60):
                self.look_at(tree, room, [0] * len(tree), 0)

    def test_a_row_of_equal_weights(self):
        for knots in (1, 2, 7, 59, 60):
            for room in (1, 2, 3, 7, 29, 30, 59, 60):
                # The knots of the last block are read most, so just the first block may be less than full.
                right = sum(1 + knot // room for knot in range(knots))
                first = knots % room or room
                right = min(right, sum(1 if knot < first else 2 + (knot - first) // room for knot in range(knots)))
                for weight in (1, 5, VERY_GREAT):
                    self.look_at(chain(knots), room, [weight] * knots, weight * right)

    def test_a_star_keeps_its_heaviest_leaves(self):
        for knots in (2, 3, 30, 59, 60):
            for weights in some_weights(knots):
                leaves = sorted(weights[1:], reverse=True)
                for room in (1, 2, 7, 29, 59, 60):
                    self.look_at(star(knots), room, weights, sum(weights) + sum(leaves[room - 1:]))

    def test_full_trees_of_equal_weights(self):
        for many, levels in ((1, 60), (2, 5), (3, 4), (7, 3), (59, 2)):
            tree = full_tree(many, levels)
            for room in (1, 2, 3, 4, 7, 8, 15, 31, 40, 60):
                weights = [1] * len(tree)
                self.look_at(tree, room, weights, table_price(tree, room, weights))

    def test_weights_of_one_knot_alone(self):
        for tree in (chain(60), star(60), fork(60), comb(59), brooms(31)):
            for knot in (0, 1, 2, len(tree) // 2, len(tree) - 2, len(tree) - 1):
                weights = [0] * len(tree)
                weights[knot] = 3
                for room in (1, 2, 7, 60):
                    self.look_at(tree, room, weights, 3 * -(-len(look_way(tree, knot)) // room))

    def test_very_great_weights_do_not_drown_small_ones(self):
        for tree in (chain(20), fork(31), comb(40), full_tree(3, 4)):
            knots = len(tree)
            for weights in ([VERY_GREAT] + [1] * (knots - 1), [1] * (knots - 1) + [VERY_GREAT],
                            [2 ** 53 + knot % 2 for knot in range(knots)],
                            [VERY_GREAT ** 2 if knot % 4 == 1 else VERY_GREAT - knot for knot in range(knots)]):
                for room in (2, 3, 6):
                    self.look_at(tree, room, weights, table_price(tree, room, weights))

    def test_a_room_for_all(self):
        for tree in some_trees():
            knots = len(tree)
            weights = some_weights(knots)[1]
            self.look_at(tree, knots, weights, sum(weights))
            self.assertEqual(cheapest(tree, 60, weights).price, sum(weights))
            ones = cheapest(tree, knots - 1, [1] * knots)
            # With room for all knots but one, just one leaf lies apart.
            self.assertEqual(ones.price, knots + 1)

    def test_a_room_of_one(self):
        for tree in some_trees():
            weights = some_weights(len(tree))[3]
            told = cheapest(tree, 1, weights)
            self.assertEqual(told.laying, list(range(len(tree))))
            self.assertEqual(told.price, look_price([len(look_way(tree, knot)) for knot in range(len(tree))], weights))

    def test_what_was_changed_is_asked_anew(self):
        tree, weights = [-1, 0, 0, 1], [1, 2, 3, 4]
        told = cheapest(tree, 2, weights)
        self.assertEqual((told.price, told.laying), (16, [0, 1, 0, 1]))
        tree[3], weights[1] = 2, 50
        self.assertEqual((told.price, told.laying), (16, [0, 1, 0, 1]))
        self.look_at(tree, 2, weights, 65)
        told.price, told.laying = None, None
        self.assertEqual(cheapest(tree, 2, weights).price, 65)


class TestRefusals(unittest.TestCase):

    def test_no_tree(self):
        for tree in NO_TREES:
            knots = len(tree) if isinstance(tree, list) else 1
            for room in (1, 60, 0, 61, None, True):
                for weights in ([0] * knots, [0], [-1], None, [True]):
                    refuses(self, BadTree, cheapest, tree, room, weights)

    def test_a_bad_parent_anywhere(self):
        for tree in spoiled_trees():
            refuses(self, BadTree, cheapest, tree, 60, [0] * 60)

    def test_no_tree_goes_before_no_room(self):
        for tree in ([-1, 0], [-1, 0, 0], fork(60)):
            for wrong in wrong_trees(tree):
                for room in WRONG_ROOMS:
                    refuses(self, BadTree, cheapest, wrong, room, [0] * len(tree))

    def test_no_room(self):
        for tree in (*ROOTS, chain(60), star(60), fork(59)):
            for room in WRONG_ROOMS:
                for weights in ([0] * len(tree), [0] * 61, [-1] * len(tree), [True] * len(tree), None, "0"):
                    refuses(self, BadRoom, cheapest, tree, room, weights)

    def test_no_weights(self):
        for tree in ROOTS:
            for weights in wrong_weights(len(tree)):
                for room in (1, 60):
                    refuses(self, BadWeights, cheapest, tree, room, weights)
        for tree in (chain(60), fork(60)):
            for weights in wrong_weights(60):
                refuses(self, BadWeights, cheapest, tree, 7, weights)

    def test_a_weight_of_0_is_taken_anywhere(self):
        for tree in ROOTS:
            for knot in range(len(tree)):
                weights = [1] * len(tree)
                weights[knot] = 0
                self.assertEqual(cheapest(tree, 60, weights).price, len(tree) - 1)


if __name__ == "__main__":
    unittest.main()
