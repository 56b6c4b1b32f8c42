"""Groves: trees that grow and are cut."""

import unittest

from boughblocks.errors import BadKnot, BadRoom, Bare, BoughError, TooGreat
from boughblocks.growing import Grove
from boughblocks.heights import least
from tests.looks import (VERY_GREAT, all_trees, chain, fork, great_trees, kinds, look_reads, scattered, star,
                         wrong_knots)
from tests.looks_least import WRONG_ROOMS, comb, is_right_laying, least_height_of, table_height, tried


def grown(tree, room):
    """A grove that has grown to the tree."""
    grove = Grove(room)
    for parent in tree[1:]:
        grove.put(parent)
    return grove


class Look(unittest.TestCase):

    def look_at(self, grove, tree, room, right=None):
        """What is told of the grove, when this is its tree; twice, the told lists being changed between."""
        right = table_height(tree, room) if right is None else right
        for _ in range(2):
            told, laying, high = grove.tree(), grove.least_laying(), grove.least_height()
            self.assertEqual(told, tree)
            self.assertEqual(kinds(told), (list, [int] * len(tree)))
            self.assertEqual(high, right)
            self.assertIs(type(high), int)
            is_right_laying(self, tree, room, laying)
            self.assertEqual(max(look_reads(tree, laying)), right)
            self.assertIsNot(told, grove.tree())
            self.assertIsNot(laying, grove.least_laying())
            for each in (told, laying):
                each[0] = "changed"
                each.append(0)

    def refuses(self, error, grove, method, *handed):
        """The call is refused by just that error, and the grove tells what it told."""
        before = (grove.tree(), grove.least_height(), grove.least_laying())
        with self.assertRaises(ValueError) as caught:
            getattr(grove, method)(*handed)
        self.assertIs(type(caught.exception), error)
        self.assertIsInstance(caught.exception, BoughError)
        self.assertEqual((grove.tree(), grove.least_height(), grove.least_laying()), before)


class TestGrove(Look):

    def test_told_by_hand(self):
        grove = Grove(2)
        self.assertEqual(grove.tree(), [-1])
        self.assertEqual(grove.put(0), 1)
        self.assertEqual(grove.put(0), 2)
        self.assertEqual(grove.put(1), 3)
        self.assertEqual(grove.tree(), [-1, 0, 0, 1])
        self.assertEqual(grove.least_height(), 2)
        self.assertEqual(grove.take(), 1)
        self.assertEqual(grove.take(), 0)
        self.assertEqual(grove.tree(), [-1, 0])
        self.assertEqual(grove.least_height(), 1)
        self.assertEqual(grove.least_laying(), [0, 0])

    def test_the_root_alone(self):
        for room in range(1, 61):
            grove = Grove(room)
            self.look_at(grove, [-1], room, 1)
            self.assertEqual(grove.least_laying(), [0])
            self.refuses(Bare, grove, "take")
            self.assertEqual(grove.put(0), 1)
            self.look_at(grove, [-1, 0], room, 2 if room == 1 else 1)
            self.assertEqual(grove.take(), 0)
            self.look_at(grove, [-1], room, 1)
            self.refuses(Bare, grove, "take")

    def test_all_small_trees(self):
        for knots in range(1, 6):
            for tree in all_trees(knots):
                looked = tried(tree)
                for room in (1, 2, 3, knots):
                    grove = grown(tree, room)
                    self.look_at(grove, tree, room, least_height_of(looked, room))
                    for last in range(knots - 1, 0, -1):
                        self.assertEqual(grove.take(), tree[last])
                        self.assertEqual(grove.tree(), tree[:last])

    def test_each_step_up_to_sixty_knots_and_back(self):
        for tree in (chain(60), star(60), fork(60), scattered(60, 7), comb(60)):
            for room in (1, 2, 7, 59, 60):
                grove = Grove(room)
                for last in range(1, 60):
                    told = grove.put(tree[last])
                    self.assertEqual(told, last)
                    self.assertIs(type(told), int)
                    if last % 9 == 5 or last > 57:
                        self.look_at(grove, tree[:last + 1], room)
                for last in range(59, 0, -1):
                    told = grove.take()
                    self.assertEqual(told, tree[last])
                    self.assertIs(type(told), int)
                    if last % 9 == 5 or last > 57:
                        self.look_at(grove, tree[:last], room)
                self.look_at(grove, [-1], room, 1)
                self.refuses(Bare, grove, "take")

    def test_put_and_taken_again(self):
        tree, grove = [-1], Grove(3)
        for step in range(400):
            if len(tree) == 60 or len(tree) > 1 and step * step % 7 == 4:
                self.assertEqual(grove.take(), tree.pop())
            else:
                knot = (step * step + 3 * step) % len(tree)
                self.assertEqual(grove.put(knot), len(tree))
                tree.append(knot)
            self.assertEqual(grove.tree(), tree)
            if step % 20 == 0:
                self.look_at(grove, tree, 3)

    def test_a_knot_under_another_than_before(self):
        grove = grown(chain(59), 2)
        self.assertEqual(grove.put(58), 59)
        self.look_at(grove, chain(60), 2, 30)
        self.assertEqual(grove.take(), 58)
        self.assertEqual(grove.put(0), 59)
        self.look_at(grove, [*chain(59), 0], 2, 30)

    def test_groves_are_apart(self):
        one, other, third = Grove(1), Grove(60), Grove(1)
        one.put(0)
        one.put(1)
        other.put(0)
        self.look_at(one, [-1, 0, 1], 1, 3)
        self.look_at(other, [-1, 0], 60, 1)
        self.look_at(third, [-1], 1, 1)

    def test_as_the_tree_and_the_room_tell(self):
        for tree in great_trees():
            for room in (1, 3, 20, 60):
                grove = grown(tree, room)
                self.assertEqual(grove.least_height(), least(tree, room).height)
                self.assertEqual(grove.tree(), tree)


class TestRefusals(Look):

    def test_no_room(self):
        for room in WRONG_ROOMS:
            with self.assertRaises(ValueError) as caught:
                Grove(room)
            self.assertIs(type(caught.exception), BadRoom)
            self.assertIsInstance(caught.exception, BoughError)

    def test_no_knot(self):
        for tree in ([-1], [-1, 0], [-1, 0, 1, 0], fork(59), chain(59)):
            for knot in wrong_knots(tree):
                self.refuses(BadKnot, grown(tree, 7), "put", knot)

    def test_sixty_knots(self):
        for tree in (chain(60), star(60), fork(60)):
            grove = grown(tree, 7)
            for knot in (0, 1, 30, 59):
                self.refuses(TooGreat, grove, "put", knot)
            grove.take()
            self.assertEqual(grove.put(tree[59]), 59)
            self.refuses(TooGreat, grove, "put", 59)

    def test_no_knot_goes_before_sixty_knots(self):
        grove = grown(fork(60), 7)
        for knot in wrong_knots(fork(60)):
            self.refuses(BadKnot, grove, "put", knot)
        self.look_at(grove, fork(60), 7)

    def test_a_refused_call_changes_nothing(self):
        grove = grown([-1, 0, 1], 2)
        for knot in (3, -1, True, None, "0", VERY_GREAT):
            self.refuses(BadKnot, grove, "put", knot)
        self.assertEqual(grove.put(2), 3)
        self.look_at(grove, [-1, 0, 1, 2], 2, 2)
        for _ in range(3):
            grove.take()
        for _ in range(3):
            self.refuses(Bare, grove, "take")
        self.assertEqual(grove.put(0), 1)
        self.look_at(grove, [-1, 0], 2, 1)


if __name__ == "__main__":
    unittest.main()
