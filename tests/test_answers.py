"""The answers: their fields, the lists of these, and what they show."""

import unittest
from itertools import product

from boughblocks.answers import Answer, Best, Full, Good, High, Least
from tests.looks import (VERY_GREAT, all_layings, all_trees, chain, fork, great_layings, great_trees,
                         greatest_paper, kinds, look_bound, look_keeps, look_reads, look_sure, star, told_by)

ROOMS = (1, 2, 3, 7, 29, 30, 59, 60)
ODD_NUMBERS = (-VERY_GREAT, -61, -60, -2, -1, 0, 60, 61, 62, VERY_GREAT)


class TestClasses(unittest.TestCase):

    def test_each_is_straight_under_answer(self):
        for one in (Good, Full, Least, High, Best):
            self.assertEqual(one.__bases__, (Answer,))
        self.assertEqual(len({Good, Full, Least, High, Best}), 5)
        self.assertFalse(issubclass(Answer, Exception))

    def test_fields(self):
        for number in (1, 2, *ODD_NUMBERS):
            self.assertEqual(Good(number).height, number)
            self.assertEqual(Full(number).block, number)
            least, best = Least(number, [0, 1, 0]), Best(number, [0, 0, 1])
            self.assertEqual((least.height, least.laying), (number, [0, 1, 0]))
            self.assertEqual((best.price, best.laying), (number, [0, 0, 1]))
        self.assertEqual(High([(2, 1), (1, 1)]).pairs, [(2, 1), (1, 1)])
        self.assertEqual(kinds(High([(2, 1), (1, 1)]).pairs), kinds([(2, 1), (1, 1)]))
        self.assertEqual(High([]).pairs, [])

    def test_a_list_that_was_handed_in_is_not_kept(self):
        laying = [0, 1, 0]
        pairs = [(2, 1), (1, 1), (1, 1)]
        least, best, high = Least(2, laying), Best(9, laying), High(pairs)
        laying.append(2)
        laying[0] = 5
        pairs.append((1, 1))
        pairs[0] = (7, 7)
        self.assertEqual(least.laying, [0, 1, 0])
        self.assertEqual(best.laying, [0, 1, 0])
        self.assertEqual(high.pairs, [(2, 1), (1, 1), (1, 1)])

    def test_a_list_of_a_field_may_be_changed(self):
        laying = [0, 1, 0]
        pairs = [(2, 1), (1, 1), (1, 1)]
        least, other, best = Least(2, laying), Least(2, laying), Best(9, laying)
        high, another = High(pairs), High(pairs)
        for told in (least.laying, best.laying, high.pairs):
            told.clear()
        self.assertEqual(laying, [0, 1, 0])
        self.assertEqual(pairs, [(2, 1), (1, 1), (1, 1)])
        self.assertEqual(other.laying, [0, 1, 0])
        self.assertEqual(another.pairs, [(2, 1), (1, 1), (1, 1)])
        self.assertEqual((least.laying, best.laying, high.pairs), ([], [], []))


class TestGoodAndFull(unittest.TestCase):

    def look_at(self, tree, room, laying):
        """One of both shows, with just one height, or with just the blocks that have more knots."""
        knots = len(tree)
        most = max(look_reads(tree, laying))
        keeps = look_keeps(room, laying)
        numbers = (*range(-2, min(knots, 8) + 2), most - 1, most, most + 1, *laying, *ODD_NUMBERS)
        for number in dict.fromkeys(numbers):
            good = told_by(self, Good(number).shows, tree, room, laying)
            self.assertIs(good, keeps and number == most)
            full = told_by(self, Full(number).shows, tree, room, laying)
            self.assertIs(full, sum(1 for block in laying if block == number) > room)

    def test_told_by_hand(self):
        tree, laying = [-1, 0, 0, 1, 2], [0, 0, 1, 0, 1]
        self.assertIs(Good(2).shows(tree, 3, laying), True)
        self.assertIs(Good(1).shows(tree, 3, laying), False)
        self.assertIs(Good(3).shows(tree, 3, laying), False)
        self.assertIs(Good(2).shows(tree, 2, laying), False)
        self.assertIs(Full(0).shows(tree, 2, laying), True)
        self.assertIs(Full(1).shows(tree, 2, laying), False)
        self.assertIs(Full(0).shows(tree, 3, laying), False)
        self.assertIs(Full(1).shows(tree, 1, laying), True)
        self.assertIs(Full(-1).shows(tree, 1, laying), False)

    def test_a_block_counts_all_its_knots_though_they_do_not_hang_together(self):
        self.assertIs(Full(1).shows([-1, 0, 0], 1, [0, 1, 1]), True)
        self.assertIs(Good(2).shows([-1, 0, 0], 1, [0, 1, 1]), False)
        self.assertIs(Good(2).shows([-1, 0, 0], 2, [0, 1, 1]), True)
        self.assertIs(Good(3).shows([-1, 0, 1], 2, [0, 1, 0]), True)
        self.assertIs(Full(0).shows([-1, 0, 1], 1, [0, 1, 0]), True)

    def test_all_small_layings(self):
        for knots in range(1, 5):
            for tree in all_trees(knots):
                for laying in all_layings(knots):
                    for room in (*range(1, knots + 2), 60):
                        self.look_at(tree, room, laying)

    def test_great_layings(self):
        for tree in great_trees():
            for laying in great_layings(tree):
                for room in ROOMS:
                    self.look_at(tree, room, laying)

    def test_rooms_just_great_enough(self):
        for room in range(1, 60):
            laying = [0] * room + [1] * (60 - room)
            wide = max(room, 60 - room)
            self.assertIs(Good(2).shows(chain(60), wide, laying), True)
            self.assertIs(Good(2).shows(chain(60), wide - 1, laying) if wide > 1 else False, False)
            self.assertIs(Full(0).shows(chain(60), room, laying), False)
            self.assertIs(Full(1).shows(chain(60), room, laying), 60 - room > room)
            if room > 1:
                self.assertIs(Full(0).shows(chain(60), room - 1, laying), True)
        self.assertIs(Good(1).shows(chain(60), 60, [0] * 60), True)
        self.assertIs(Full(0).shows(chain(60), 60, [0] * 60), False)
        self.assertIs(Full(0).shows(chain(60), 59, [0] * 60), True)

    def test_the_field_as_it_stands(self):
        tree, laying = [-1, 0, 1], [0, 1, 1]
        good, full = Good(1), Full(0)
        for number, as_good, as_full in ((2, True, False), (1, False, True), (3, False, False), (2, True, False)):
            good.height = full.block = number
            self.assertIs(good.shows(tree, 2, laying), as_good)
            self.assertIs(full.shows(tree, 1, laying), as_full)
            self.assertEqual((good.height, full.block), (number, number))

    def test_each_is_asked_anew(self):
        good, full = Good(2), Full(0)
        self.assertIs(good.shows([-1, 0, 1], 2, [0, 1, 1]), True)
        self.assertIs(good.shows([-1, 0, 1], 1, [0, 1, 1]), False)
        self.assertIs(good.shows([-1, 0, 1], 2, [0, 0, 1]), True)
        self.assertIs(good.shows([-1, 0, 1], 2, [0, 1, 2]), False)
        self.assertIs(good.shows([-1, 0, 0], 2, [0, 1, 2]), True)
        self.assertIs(full.shows([-1, 0, 1], 1, [0, 0, 1]), True)
        self.assertIs(full.shows([-1, 0, 1], 1, [0, 1, 1]), False)
        self.assertIs(full.shows([-1, 0, 1], 2, [0, 0, 0]), True)
        self.assertIs(full.shows([-1, 0, 1], 3, [0, 0, 0]), False)


    def test_a_laying_of_another_tree_is_none_of_this_one(self):
        for laying in ([0], [0, 0], [0, 0, 0, 0], [0, 1, 1, 1], [0] * 60):
            for number in (0, 1, 2):
                for room in (1, 60):
                    self.assertIs(Good(number).shows([-1, 0, 1], room, laying), False)
                    self.assertIs(Full(number).shows([-1, 0, 1], room, laying), False)

    def test_a_field_that_is_no_number_is_no_height_and_no_block(self):
        for field in (True, False, None, "1", "0", [1], (0,)):
            self.assertIs(Good(field).shows([-1, 0], 2, [0, 0]), False)
            self.assertIs(Full(field).shows([-1, 0, 1, 1], 1, [0, 0, 1, 1]), False)


class TestHigh(unittest.TestCase):

    def look_at(self, tree, room, pairs):
        pairs = list(pairs)
        high = High(pairs)
        self.assertIs(told_by(self, high.shows, tree, room), look_sure(tree, room, pairs), (tree, room, pairs))
        self.assertEqual(high.pairs, pairs)

    def test_told_by_hand(self):
        tree = [-1, 0, 0, 1]
        paper = [(2, 3), (1, 2), (1, 1), (1, 1)]
        self.assertIs(High(paper).shows(tree, 4), False)
        self.assertIs(High([(1, 4), *paper[1:]]).shows(tree, 4), True)
        self.assertIs(High([(1, 5), *paper[1:]]).shows(tree, 4), False)
        self.assertIs(High([(2, 1), *paper[1:]]).shows(tree, 3), True)
        self.assertIs(High([(2, 2), *paper[1:]]).shows(tree, 3), False)
        self.assertIs(High([(1, VERY_GREAT), *paper[1:]]).shows(tree, 3), True)
        self.assertIs(High([(2, 2), (2, 1), (1, 1), (1, 1)]).shows(tree, 3), False)
        self.assertIs(High([(2, 2), (2, 1), (1, 1), (1, 1)]).shows(tree, 1), True)
        self.assertIs(High([(2, 1), (2, 1), (1, 1), (1, 1)]).shows(tree, 1), True)
        self.assertIs(High([(3, 1), (2, 1), (1, 1), (1, 1)]).shows(tree, 1), True)
        self.assertIs(High([(3, 2), (2, 1), (1, 1), (1, 1)]).shows(tree, 1), False)

    def test_a_leaf(self):
        for room in ROOMS:
            for pair in product((-VERY_GREAT, -1, 0, 1, 2, VERY_GREAT), repeat=2):
                self.assertIs(High([pair]).shows([-1], room), pair == (1, 1))
                self.assertIs(High([(1, 1), pair]).shows([-1, 0], room), pair == (1, 1))

    def test_all_papers_of_few_knots(self):
        some = list(product(range(0, 4), range(0, 5)))
        for pairs in product(some, repeat=2):
            for room in (1, 2, 3):
                self.look_at([-1, 0], room, pairs)
        for tree in all_trees(3):
            for pairs in product(some, repeat=2):
                for room in (1, 2, 3):
                    self.look_at(tree, room, [*pairs, (1, 1)])

    def test_papers_of_four_and_five_knots(self):
        some = list(product(range(1, 4), range(1, 6)))
        for tree in all_trees(4):
            for first, second in product(some, repeat=2):
                for third in ((1, 1), (1, 2), (2, 1)):
                    for room in (1, 2, 3, 4):
                        self.look_at(tree, room, [first, second, third, (1, 1)])
        for tree in all_trees(5):
            for first in some:
                for second in ((1, 1), (1, 2), (1, 3), (2, 1), (1, 9)):
                    for room in (1, 2, 3, 4, 5):
                        self.look_at(tree, room, [first, second, (1, 1), (1, 1), (1, 1)])

    def near(self, tree, room, pairs, knot):
        """The paper with the knot's pair near to the greatest that it may be."""
        height, count = look_bound(tree, room, pairs, knot)
        for pair in ((height, count), (height, count + 1), (height, count - 1), (height + 1, count),
                     (height + 1, 1), (height - 1, count), (height - 1, VERY_GREAT), (height, VERY_GREAT),
                     (height, -VERY_GREAT), (-height, count), (VERY_GREAT, 1), (-VERY_GREAT, 1), (1, 1), (0, 1),
                     (1, 0)):
            yield [*pairs[:knot], pair, *pairs[knot + 1:]]

    def test_pairs_just_as_great_as_may_be_and_one_more(self):
        trees = [tree for knots in range(1, 6) for tree in all_trees(knots)]
        for tree in trees:
            for room in range(1, len(tree) + 2):
                paper = greatest_paper(tree, room)
                self.assertIs(High(paper).shows(tree, room), True)
                for knot in range(len(tree)):
                    for pairs in self.near(tree, room, paper, knot):
                        self.look_at(tree, room, pairs)

    def test_great_trees(self):
        for tree in great_trees():
            for room in ROOMS:
                paper = greatest_paper(tree, room)
                self.assertIs(High(paper).shows(tree, room), True)
                for knot in (0, 1, 2, 29, 30, len(tree) - 2, len(tree) - 1):
                    for pairs in self.near(tree, room, paper, knot):
                        self.look_at(tree, room, pairs)

    def test_the_room_of_a_star(self):
        leaves = [(1, 1)] * 59
        for room in range(1, 61):
            for pair in ((1, 60), (1, 61), (2, 1), (2, 2), (3, 1)):
                self.assertIs(High([pair, *leaves]).shows(star(60), room), pair <= ((1, 60) if room == 60 else (2, 1)))

    def test_a_childs_pair_counts_as_it_stands(self):
        self.assertIs(High([(2, 1), (1, 1), (1, 1)]).shows([-1, 0, 1], 1), True)
        self.assertIs(High([(3, 1), (1, 1), (1, 1)]).shows([-1, 0, 1], 1), False)
        self.assertIs(High([(3, 1), (2, 1), (1, 1)]).shows([-1, 0, 1], 1), True)
        self.assertIs(High([(2, 1), (1, VERY_GREAT), (1, 1)]).shows([-1, 0, 1], 1), True)
        self.assertIs(High([(2, 2), (1, VERY_GREAT), (1, 1)]).shows([-1, 0, 1], 1), False)
        self.assertIs(High([(1, 2), (1, 1), (1, 1)]).shows([-1, 0, 1], 3), True)
        self.assertIs(High([(1, 3), (1, 1), (1, 1)]).shows([-1, 0, 1], 3), False)

    def test_papers_too_short_too_long_and_empty(self):
        for tree in ([-1], [-1, 0], [-1, 0, 0], chain(60), star(60), fork(59)):
            knots = len(tree)
            for room in (1, 2, 60):
                paper = greatest_paper(tree, room)
                for pairs in ([], paper[:-1], paper[1:], [*paper, (1, 1)], [(1, 1), *paper], paper * 2,
                              [(1, 1)] * (knots - 1), [(1, 1)] * (knots + 1), [(1, 1)] * 100):
                    if len(pairs) != knots:
                        self.assertIs(High(pairs).shows(tree, room), False)

    def test_what_is_no_pair_of_numbers_is_in_no_paper(self):
        for pair in ((1,), (1, 1, 1), (), [1, 1], (True, 1), (1, True), ("1", 1), (1, None), 1, None, "11"):
            self.assertIs(High([pair]).shows([-1], 60), False)
            self.assertIs(High([(1, 1), pair]).shows([-1, 0], 60), False)

    def test_the_field_as_it_stands(self):
        tree = [-1, 0, 0]
        high = High([(2, 1), (1, 1), (1, 1)])
        self.assertIs(high.shows(tree, 2), True)
        high.pairs[0] = (2, 2)
        self.assertIs(high.shows(tree, 2), False)
        high.pairs = [(1, 3), (1, 1), (1, 1)]
        self.assertIs(high.shows(tree, 2), True)
        self.assertIs(high.shows(tree, 3), True)
        high.pairs.append((1, 1))
        self.assertIs(high.shows(tree, 3), False)
        self.assertIs(high.shows([-1, 0, 0, 0], 3), True)
        high.pairs.pop()
        self.assertIs(high.shows(tree, 3), True)
        high.pairs.clear()
        self.assertIs(high.shows(tree, 3), False)

    def test_no_laying_is_lower_than_a_paper_that_is_made_sure(self):
        for knots in range(1, 6):
            for tree in all_trees(knots):
                for room in range(1, knots + 1):
                    lowest = min(max(look_reads(tree, laying)) for laying in all_layings(knots)
                                 if look_keeps(room, laying))
                    high = High(greatest_paper(tree, room))
                    self.assertIs(high.shows(tree, room), True)
                    self.assertLessEqual(high.pairs[0][0], lowest)
                    high.pairs[0] = (lowest + 1, 1)
                    self.assertIs(high.shows(tree, room), False)


if __name__ == "__main__":
    unittest.main()
