"""What the files promise together."""

import unittest

from boughblocks.answers import Best, Full, Good, High, Least
from boughblocks.full import of_full, of_row
from boughblocks.growing import Grove
from boughblocks.heights import judged, least, paper
from boughblocks.layings import hanging, height, named, price, reads
from boughblocks.trees import below, children, in_turn, leaves, part, put_under, way
from boughblocks.weighing import cheapest
from tests.looks import VERY_GREAT, all_layings, all_trees, chain, fork, great_layings, great_trees, scattered, star
from tests.looks_least import full_tree, some_trees

ROOMS = (1, 2, 3, 7, 30, 60)


class TestTrees(unittest.TestCase):

    def test_a_part_is_no_higher_and_no_dearer_than_its_tree(self):
        for tree in (fork(30), scattered(40, 7), chain(20), star(25)):
            weights = [knot % 5 for knot in range(len(tree))]
            for room in ROOMS:
                high, told = least(tree, room).height, cheapest(tree, room, weights).price
                for knot in range(len(tree)):
                    its = part(tree, knot)
                    self.assertLessEqual(least(its, room).height, high)
                    theirs = [weights[other] for other in below(tree, knot)]
                    self.assertLessEqual(cheapest(its, room, theirs).price, told)

    def test_a_paper_holds_for_each_part(self):
        for tree in (fork(30), scattered(40, 7), chain(20), star(25)):
            for room in ROOMS:
                pairs = paper(tree, room).pairs
                for knot in range(len(tree)):
                    its = part(tree, knot)
                    self.assertLessEqual(pairs[knot][0], least(its, room).height)
                    self.assertIs(High([pairs[other] for other in below(tree, knot)]).shows(its, room), True)

    def test_the_tree_in_turn_has_the_same_least_height_and_price(self):
        for tree in some_trees() + great_trees():
            turn, turned = in_turn(tree)
            weights = [knot * knot % 13 for knot in range(len(tree))]
            for room in ROOMS:
                self.assertEqual(least(turned, room).height, least(tree, room).height)
                self.assertEqual(cheapest(turned, room, [weights[knot] for knot in turn]).price,
                                 cheapest(tree, room, weights).price)

    def test_trees_put_under_a_root(self):
        trees = [chain(7), star(5), fork(15), [-1], scattered(20, 7)]
        for room in ROOMS:
            most = max(least(tree, room).height for tree in trees)
            self.assertIn(least(put_under(trees), room).height, (most, most + 1))
        for room in (1, 2, 4, 8, 21):
            once = put_under([full_tree(4, 2)] * 4)
            self.assertEqual(least(once, room).height, of_full(4, 3, room))
            self.assertEqual(least(put_under([chain(20)]), room).height, of_row(21, room))

    def test_a_grove_that_grows_to_a_tree(self):
        for tree in great_trees():
            for room in ROOMS:
                grove = Grove(room)
                for knot in range(1, len(tree)):
                    self.assertEqual(grove.put(tree[knot]), knot)
                self.assertEqual(grove.tree(), tree)
                good = judged(grove.tree(), room, grove.least_laying())
                self.assertIs(type(good), Good)
                self.assertEqual(good.height, grove.least_height())
                self.assertEqual(paper(grove.tree(), room).pairs[0][0], grove.least_height())


class TestLayings(unittest.TestCase):

    def test_no_laying_that_keeps_to_the_room_is_lower_or_cheaper(self):
        for knots in range(1, 6):
            for tree in all_trees(knots):
                weights = [knot * 3 % 5 for knot in range(knots)]
                for room in range(1, knots + 1):
                    high, told = least(tree, room).height, cheapest(tree, room, weights).price
                    heights, prices = [], []
                    for laying in all_layings(knots):
                        answer = judged(tree, room, laying)
                        self.assertIs(answer.shows(tree, room, laying), True)
                        if isinstance(answer, Good):
                            heights.append(answer.height)
                            prices.append(price(tree, laying, weights))
                    self.assertEqual((min(heights), min(prices)), (high, told))

    def test_great_layings_are_no_lower_and_no_cheaper(self):
        for tree in great_trees():
            weights = [knot * knot % 7 for knot in range(len(tree))]
            for laying in great_layings(tree):
                for room in ROOMS:
                    if isinstance(judged(tree, room, laying), Good):
                        self.assertGreaterEqual(height(tree, laying), least(tree, room).height)
                        self.assertGreaterEqual(price(tree, laying, weights), cheapest(tree, room, weights).price)

    def test_told_layings_are_layings_at_each_door(self):
        for tree in some_trees():
            weights = [1 + knot % 4 for knot in range(len(tree))]
            for room in ROOMS:
                low, best = least(tree, room), cheapest(tree, room, weights)
                for laying in (low.laying, best.laying):
                    self.assertEqual(named(tree, laying), laying)
                    self.assertEqual(hanging(tree, laying), laying)
                    self.assertIs(type(judged(tree, room, laying)), Good)
                self.assertEqual(max(reads(tree, low.laying)), low.height)
                self.assertEqual(height(tree, low.laying), low.height)
                self.assertEqual(price(tree, best.laying, weights), best.price)
                self.assertGreaterEqual(height(tree, best.laying), low.height)
                self.assertGreaterEqual(price(tree, low.laying, weights), best.price)

    def test_a_weight_on_the_leaves_of_a_star_alone(self):
        tree = star(60)
        self.assertEqual(leaves(tree), children(tree, 0))
        told = cheapest(tree, 60, [0] + [1] * 59)
        self.assertEqual((told.price, told.laying), (59, least(tree, 60).laying))
        self.assertEqual(cheapest(tree, 59, [0] + [1] * 59).price, 60)

    def test_a_weight_on_one_knot_reads_as_its_way_alone(self):
        for tree in great_trees()[:6]:
            for knot in (1, 30, len(tree) - 1):
                for room in (1, 4, 60):
                    weights = [VERY_GREAT if other == knot else 0 for other in range(len(tree))]
                    self.assertTrue(cheapest(tree, room, weights).price
                                    == VERY_GREAT * of_row(len(way(tree, knot)), room))


class TestListsAndFields(unittest.TestCase):

    def test_each_told_answer_is_of_its_one_class(self):
        tree, laying = [-1, 0, 0], [0, 0, 1]
        self.assertIs(type(least(tree, 2)), Least)
        self.assertIs(type(paper(tree, 2)), High)
        self.assertIs(type(judged(tree, 2, laying)), Good)
        self.assertIs(type(judged(tree, 1, laying)), Full)
        self.assertIs(type(cheapest(tree, 2, [1, 1, 1])), Best)

    def test_lists_that_were_told_may_be_handed_in_and_changed(self):
        tree = put_under([chain(3), star(4)])
        for room in (1, 2, 3, 8):
            low, high = least(tree, room), paper(tree, room)
            best = cheapest(tree, room, [1] * 8)
            right = (low.height, list(low.laying), list(high.pairs), best.price, list(best.laying))
            good = judged(tree, room, low.laying)
            low.laying.reverse()
            high.pairs.clear()
            best.laying[:] = [7]
            self.assertIs(good.shows(tree, room, right[1]), True)
            self.assertIs(high.shows(tree, room), False)
            again, best = least(tree, room), cheapest(tree, room, [1] * 8)
            self.assertEqual((again.height, again.laying, paper(tree, room).pairs, best.price, best.laying), right)

    def test_a_grove_keeps_nothing_of_what_it_told(self):
        grove = Grove(2)
        grove.put(0)
        told = grove.tree()
        told.append(1)
        grove.least_laying().append(5)
        self.assertEqual(grove.tree(), [-1, 0])
        self.assertEqual(grove.least_laying(), [0, 0])
        self.assertEqual(grove.put(1), 2)
        self.assertEqual(told, [-1, 0, 1])
        self.assertEqual(grove.take(), 1)
        self.assertEqual(told, [-1, 0, 1])

    def test_an_answer_keeps_nothing_of_what_was_handed_in(self):
        tree, weights = chain(6), [1] * 6
        low, high, best = least(tree, 3), paper(tree, 3), cheapest(tree, 3, weights)
        good = judged(tree, 3, low.laying)
        tree[:], weights[:] = [-1, 0], [9, 9]
        self.assertEqual((low.height, low.laying), (2, [0, 0, 0, 1, 1, 1]))
        self.assertEqual(high.pairs[0][0], 2)
        self.assertEqual((best.price, best.laying), (9, [0, 0, 0, 1, 1, 1]))
        self.assertEqual(good.height, 2)
        self.assertIs(high.shows(chain(6), 3), True)
        self.assertIs(high.shows(tree, 3), False)


if __name__ == "__main__":
    unittest.main()
