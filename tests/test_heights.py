"""The least height, its paper, and layings judged."""

import unittest

from boughblocks.answers import Full, Good, High, Least
from boughblocks.errors import BadLaying, BadRoom, BadTree
from boughblocks.heights import judged, least, paper
from boughblocks.layings import hanging, height
from tests.looks import (NO_TREES, all_layings, all_trees, chain, fork, great_layings, great_trees, greatest_paper,
                         look_hanging, look_keeps, look_reads, look_sure, refuses, spoiled_trees, star,
                         wrong_layings)
from tests.looks_least import (WRONG_ROOMS, answered, comb, cut, full_tree, is_right_laying, least_height_of,
                               some_trees, table_height, tried, wrong_trees)

TREE = [-1, 0, 0, 1, 1, 2, 3]
ROOTS = ([-1], [-1, 0], [-1, 0, 0], [-1, 0, 1, 1])
ROOMS = (1, 2, 3, 4, 5, 8, 13, 29, 30, 31, 59, 60)


class Look(unittest.TestCase):

    def look_at(self, tree, room, right):
        """Both told answers, when the least height is this."""
        told = answered(self, Least, least, tree, room)
        self.assertEqual(told.height, right, (tree, room))
        is_right_laying(self, tree, room, told.laying)
        self.assertEqual(max(look_reads(tree, told.laying)), right)
        self.assertEqual(height(tree, told.laying), right)
        self.assertEqual(hanging(tree, told.laying), told.laying)
        high = answered(self, High, paper, tree, room)
        self.assertEqual(high.pairs[0][0], right)
        self.assertTrue(look_sure(tree, room, high.pairs))
        self.assertIs(high.shows(tree, room), True)


class TestLeast(Look):

    def test_told_by_hand(self):
        self.look_at(TREE, 1, 4)
        self.look_at(TREE, 2, 2)
        self.look_at(TREE, 3, 2)
        self.look_at(TREE, 6, 2)
        self.look_at(TREE, 7, 1)
        self.look_at([-1, 0, 0], 2, 2)
        self.look_at([-1, 0, 1], 2, 2)
        self.look_at([-1, 0, 1, 2], 2, 2)
        self.look_at([-1, 0, 0, 1, 2], 2, 2)
        self.look_at([-1, 0, 0, 1, 2, 3, 4], 3, 2)
        self.look_at([-1, 0, 0, 1, 2, 3, 4], 2, 3)

    def test_one_knot(self):
        for room in range(1, 61):
            self.assertEqual(least([-1], room).laying, [0])
            self.assertEqual(paper([-1], room).pairs, [(1, 1)])
            self.look_at([-1], room, 1)

    def test_small_trees_all_layings_tried(self):
        for knots in range(1, 7):
            for tree in all_trees(knots):
                looked = tried(tree)
                for room in (*range(1, knots + 2), 60):
                    self.look_at(tree, room, least_height_of(looked, room))

    def test_trees_all_cuts_tried(self):
        for tree in some_trees():
            tree = tree[:11]
            looked = cut(tree)
            for room in range(1, 12):
                right = least_height_of(looked, room)
                self.assertEqual(table_height(tree, room), right)
                self.look_at(tree, room, right)

    def test_trees_by_a_table(self):
        for tree in some_trees():
            for room in ROOMS:
                self.look_at(tree, room, table_height(tree, room))

    def test_great_trees_at_each_room(self):
        for tree in great_trees():
            for room in range(1, 61):
                told = least(tree, room)
                self.assertEqual(told.height, table_height(tree, room))
                is_right_laying(self, tree, room, told.laying)
                self.assertEqual(max(look_reads(tree, told.laying)), told.height)
                self.assertEqual(paper(tree, room).pairs[0][0], told.height)

    def test_rows(self):
        for knots in (1, 2, 3, 7, 30, 59, 60):
            for room in range(1, 61):
                self.assertEqual(least(chain(knots), room).height, -(-knots // room))
        self.look_at(chain(60), 1, 60)
        self.look_at(chain(60), 59, 2)
        self.look_at(chain(60), 60, 1)

    def test_stars(self):
        for knots in (2, 3, 30, 59, 60):
            for room in range(1, 61):
                self.look_at(star(knots), room, 1 if knots <= room else 2)

    def test_full_trees(self):
        for many, levels in ((1, 60), (2, 5), (3, 4), (4, 3), (5, 3), (6, 3), (7, 3), (58, 2), (59, 2)):
            tree = full_tree(many, levels)
            sizes = [len(full_tree(many, deep)) for deep in range(1, levels + 1)]
            for room in range(1, 61):
                deep = max(at for at, size in enumerate(sizes, start=1) if size <= room)
                self.look_at(tree, room, -(-levels // deep))

    def test_one_block_holds_the_tree_just_if_the_room_is_great_enough(self):
        for tree in some_trees() + great_trees():
            knots = len(tree)
            self.look_at(tree, knots, 1)
            self.assertEqual(least(tree, knots).laying, [0] * knots)
            self.assertEqual(least(tree, 60).height, 1)
            self.assertEqual(least(tree, knots - 1).height, 2)

    def test_a_room_of_one(self):
        for tree in some_trees() + great_trees():
            told = least(tree, 1)
            self.assertEqual(told.laying, list(range(len(tree))))
            self.assertEqual(told.height, max(look_reads(tree, told.laying)))

    def test_a_tree_that_was_changed_is_asked_anew(self):
        tree = [-1, 0, 1, 2]
        told, high = least(tree, 2), paper(tree, 2)
        tree[3] = 0
        tree.append(3)
        self.assertEqual((told.height, told.laying), (2, [0, 0, 1, 1]))
        self.assertEqual(high.pairs, [(2, 2), (2, 1), (1, 2), (1, 1)])
        self.look_at(tree, 2, table_height(tree, 2))
        self.look_at(tree, 5, 1)

    def test_a_field_may_be_changed_and_the_same_asked_again(self):
        told = least(TREE, 3)
        right = list(told.laying)
        told.height = 99
        told.laying = None
        self.assertEqual((least(TREE, 3).height, least(TREE, 3).laying), (2, right))


class TestPaper(Look):

    def test_told_by_hand(self):
        high = paper([-1, 0, 0, 1], 4)
        self.assertEqual(high.pairs[0][0], 1)
        self.assertIs(high.shows([-1, 0, 0, 1], 4), True)
        self.assertEqual(paper(chain(4), 3).pairs[0][0], 2)

    def test_no_paper_that_is_made_sure_has_a_greater_root(self):
        for tree in some_trees():
            for room in ROOMS:
                self.assertEqual(paper(tree, room).pairs[0][0], greatest_paper(tree, room)[0][0])

    def test_a_changed_paper_shows_as_it_stands(self):
        for tree in ([-1], TREE, chain(60), star(60), fork(60)):
            for room in (1, 2, 3, 59, 60):
                high = paper(tree, room)
                right = list(high.pairs)
                for knot in range(len(tree)):
                    high.pairs[knot] = (right[knot][0] + 1, 1)
                    self.assertIs(high.shows(tree, room), look_sure(tree, room, high.pairs))
                    high.pairs[knot] = (0, 1)
                    self.assertIs(high.shows(tree, room), False)
                    high.pairs[knot] = right[knot]
                high.pairs[0] = (right[0][0] + 1, 1)
                self.assertIs(high.shows(tree, room), False)
                high.pairs = right
                self.assertIs(high.shows(tree, room), True)
                high.pairs.pop()
                self.assertIs(high.shows(tree, room), False)
                self.assertIs(paper(tree, room).shows(tree, room), True)

    def test_a_paper_of_a_room_is_not_made_sure_at_a_greater_room_where_the_height_is_less(self):
        for tree in (TREE, chain(60), fork(60), comb(60)):
            for room in (1, 2, 5, 30):
                if least(tree, room).height > least(tree, 60).height:
                    self.assertIs(paper(tree, room).shows(tree, 60), False)


class TestJudged(unittest.TestCase):

    def look_at(self, tree, room, laying):
        keeps = look_keeps(room, laying)
        told = answered(self, Good if keeps else Full, judged, tree, room, laying)
        self.assertIs(told.shows(tree, room, laying), True)
        if keeps:
            self.assertEqual(told.height, max(look_reads(tree, laying)))
            self.assertGreaterEqual(told.height, least(tree, room).height)
            self.assertFalse([block for block in laying if Full(block).shows(tree, room, laying)])
        else:
            self.assertGreater(laying.count(told.block), room)
            self.assertIs(Good(max(look_reads(tree, laying))).shows(tree, room, laying), False)

    def test_told_by_hand(self):
        self.assertEqual(judged([-1, 0, 0, 1, 2], 3, [0, 0, 1, 0, 1]).height, 2)
        self.assertEqual(judged([-1, 0, 0, 1, 2], 2, [0, 0, 1, 0, 1]).block, 0)
        self.assertEqual(judged([-1, 0, 0, 1, 2], 2, [0, 1, 1, 1, 0]).block, 1)
        self.assertEqual(judged([-1, 0, 1], 2, [0, 1, 0]).height, 3)
        self.assertEqual(judged([-1, 0, 0, 0], 2, [0, 1, 1, 1]).block, 1)

    def test_all_small_layings(self):
        for knots in range(1, 6):
            for tree in all_trees(knots):
                for laying in all_layings(knots):
                    for room in range(1, knots + 1) if knots < 5 else (2, 3):
                        self.look_at(tree, room, laying)

    def test_great_layings(self):
        for tree in great_trees():
            for laying in great_layings(tree):
                for room in ROOMS:
                    self.look_at(tree, room, laying)

    def test_the_told_laying_is_good_and_no_room_less_than_its_greatest_block(self):
        for tree in some_trees():
            for room in ROOMS:
                told = least(tree, room)
                good = judged(tree, room, told.laying)
                self.assertIs(type(good), Good)
                self.assertEqual(good.height, told.height)
                most = max(told.laying.count(block) for block in told.laying)
                self.assertIs(type(judged(tree, most, told.laying)), Good)
                if most > 1:
                    self.assertIs(type(judged(tree, most - 1, told.laying)), Full)

    def test_parted_it_is_as_good(self):
        for tree in great_trees():
            for laying in great_layings(tree)[2:5]:
                parted = look_hanging(tree, laying)
                self.assertEqual(judged(tree, 60, parted).height, judged(tree, 60, laying).height)

    def test_a_field_may_be_changed_and_its_own_word_asked_again(self):
        tree, laying = [-1, 0, 1], [0, 1, 1]
        good, full = judged(tree, 2, laying), judged(tree, 1, laying)
        self.assertEqual((good.height, full.block), (2, 1))
        good.height, full.block = 3, 0
        self.assertIs(good.shows(tree, 2, laying), False)
        self.assertIs(full.shows(tree, 1, laying), False)
        good.height, full.block = 2, 1
        laying[1] = 0
        self.assertIs(good.shows(tree, 2, laying), True)
        self.assertIs(full.shows(tree, 1, laying), False)
        self.assertEqual(judged(tree, 1, laying).block, 0)


class TestRefusals(unittest.TestCase):

    def test_no_tree(self):
        for tree in NO_TREES:
            knots = len(tree) if isinstance(tree, list) else 1
            for room in (1, 60, 0, 61, None, True):
                refuses(self, BadTree, least, tree, room)
                refuses(self, BadTree, paper, tree, room)
                for laying in ([0] * knots, [0], [1], None):
                    refuses(self, BadTree, judged, tree, room, laying)

    def test_a_bad_parent_anywhere(self):
        for tree in spoiled_trees():
            refuses(self, BadTree, least, tree, 60)
            refuses(self, BadTree, paper, tree, 60)
            refuses(self, BadTree, judged, tree, 60, [0] * 60)

    def test_no_room(self):
        for tree in (*ROOTS, chain(60), star(60), fork(59)):
            for room in WRONG_ROOMS:
                refuses(self, BadRoom, least, tree, room)
                refuses(self, BadRoom, paper, tree, room)
                for laying in ([0] * len(tree), [0] * 61, [1], [True], None, "0"):
                    refuses(self, BadRoom, judged, tree, room, laying)

    def test_no_tree_goes_before_no_room(self):
        for tree in ([-1, 0], [-1, 0, 0], fork(60)):
            for wrong in wrong_trees(tree):
                for room in WRONG_ROOMS:
                    refuses(self, BadTree, least, wrong, room)
                    refuses(self, BadTree, paper, wrong, room)
                    refuses(self, BadTree, judged, wrong, room, [1])

    def test_no_laying(self):
        for tree in ROOTS:
            for laying in wrong_layings(len(tree)):
                for room in (1, 60):
                    refuses(self, BadLaying, judged, tree, room, laying)
        for laying in wrong_layings(60):
            refuses(self, BadLaying, judged, fork(60), 1, laying)
            refuses(self, BadLaying, judged, fork(60), 60, laying)

    def test_blocks_that_are_not_counted_as_they_are_met(self):
        for tree in all_trees(3):
            for blocks in ([0, 2, 1], [1, 0, 0], [0, 0, 2], [0, 1, 3], [1, 1, 1], [0, -1, 0], [2, 1, 0]):
                refuses(self, BadLaying, judged, tree, 1, blocks)
                refuses(self, BadLaying, judged, tree, 60, blocks)

    def test_each_room_is_taken(self):
        for room in range(1, 61):
            for tree in ([-1], fork(60)):
                least(tree, room)
                paper(tree, room)
                judged(tree, room, [0] * len(tree))


if __name__ == "__main__":
    unittest.main()
