"""Rows and full trees, told at once."""

import unittest

from boughblocks.errors import BadNumber, BadRoom
from boughblocks.full import of_full, of_row
from boughblocks.heights import least
from tests.looks import NO_NUMBERS, VERY_GREAT, chain, refuses, tells
from tests.looks_least import WRONG_ROOMS, full_tree, table_height

ROOMS = range(1, 61)
BAD_NUMBERS = NO_NUMBERS + [0, -1, -2, -60, -VERY_GREAT, [1], "60", (1,)]


def look_full(many, levels, room):
    """Level by level from the last on: the pair that each knot of a level has."""
    height, count = 1, 1
    for _ in range(1, levels):
        count = 1 + many * count
        if count > room:
            height, count = height + 1, 1
    return height


class TestRow(unittest.TestCase):

    def test_rows_of_up_to_sixty_knots(self):
        for knots in range(1, 61):
            for room in ROOMS:
                tells(self, table_height(chain(knots), room) if knots % 20 < 2 else least(chain(knots), room).height,
                      of_row, knots, room)

    def test_told_by_hand(self):
        self.assertEqual(of_row(1, 1), 1)
        self.assertEqual(of_row(1, 60), 1)
        self.assertEqual(of_row(60, 1), 60)
        self.assertEqual(of_row(7, 3), 3)
        self.assertEqual(of_row(6, 3), 2)
        self.assertEqual(of_row(61, 60), 2)

    def test_very_many_knots(self):
        for room in ROOMS:
            for height in (1, 2, 3, 61, 10 ** 6, 2 ** 53 + 1, 10 ** 30 + 7, VERY_GREAT, VERY_GREAT + 1):
                tells(self, height, of_row, height * room, room)
                tells(self, height + 1, of_row, height * room + 1, room)
                tells(self, height + 1, of_row, (height + 1) * room, room)
                if room > 1:
                    tells(self, height, of_row, height * room - 1, room)


class TestFull(unittest.TestCase):

    def test_full_trees_of_up_to_sixty_knots(self):
        seen = 0
        for many in range(1, 60):
            for levels in range(1, 61):
                if many > 1 and (levels > 6 or sum(many ** level for level in range(levels)) > 60):
                    break
                if many == 1 and levels % 7 > 1:
                    continue
                tree = full_tree(many, levels)
                for room in ROOMS:
                    tells(self, least(tree, room).height, of_full, many, levels, room)
                    seen += 1
                self.assertEqual(of_full(many, levels, 7), table_height(tree, 7))
        self.assertGreater(seen, 5000)

    def test_told_by_hand(self):
        self.assertEqual(of_full(2, 3, 7), 1)
        self.assertEqual(of_full(2, 3, 6), 2)
        self.assertEqual(of_full(2, 4, 7), 2)
        self.assertEqual(of_full(2, 6, 7), 2)
        self.assertEqual(of_full(2, 7, 7), 3)
        self.assertEqual(of_full(59, 2, 60), 1)
        self.assertEqual(of_full(59, 2, 59), 2)
        self.assertEqual(of_full(60, 2, 60), 2)
        self.assertEqual(of_full(7, 3, 57), 1)
        self.assertEqual(of_full(7, 3, 56), 2)

    def test_level_by_level(self):
        for many in (*range(1, 10), 28, 29, 30, 31, 57, 58, 59, 60, 61, 1000):
            for levels in (*range(1, 14), 59, 60, 61, 62, 200, 1001):
                for room in ROOMS:
                    self.assertEqual(of_full(many, levels, room), look_full(many, levels, room))

    def test_one_level(self):
        for many in (1, 2, 59, 60, 61, VERY_GREAT):
            for room in ROOMS:
                tells(self, 1, of_full, many, 1, room)

    def test_one_child_is_a_row(self):
        for levels in (1, 2, 59, 60, 61, 121, 10 ** 40 + 1, VERY_GREAT, VERY_GREAT + 1):
            for room in ROOMS:
                tells(self, -(-levels // room), of_full, 1, levels, room)

    def test_rooms_just_great_enough_and_one_less(self):
        for many in range(2, 60):
            for deep in range(2, 6):
                knots = sum(many ** level for level in range(deep))
                if knots > 60:
                    break
                for times in (1, 2, 1000, 10 ** 25 + 3, VERY_GREAT):
                    tells(self, times, of_full, many, deep * times, knots)
                    tells(self, times + 1, of_full, many, deep * times + 1, knots)
                    tells(self, -(-deep * times // (deep - 1)), of_full, many, deep * times, knots - 1)

    def test_very_many_children(self):
        for many in (60, 61, 2 ** 64, 10 ** 40, VERY_GREAT):
            for levels in (1, 2, 3, 61, 10 ** 40 + 1, VERY_GREAT):
                for room in ROOMS:
                    tells(self, levels, of_full, many, levels, room)

    def test_a_room_of_one(self):
        for many in (1, 2, 3, 59, VERY_GREAT):
            for levels in (1, 2, 60, 61, VERY_GREAT):
                tells(self, levels, of_full, many, levels, 1)


class TestRefusals(unittest.TestCase):

    def test_no_number(self):
        for wrong in BAD_NUMBERS:
            for room in [1, 7, 60] + WRONG_ROOMS:
                refuses(self, BadNumber, of_row, wrong, room)
                for right in (1, 3, VERY_GREAT):
                    refuses(self, BadNumber, of_full, wrong, right, room)
                    refuses(self, BadNumber, of_full, right, wrong, room)

    def test_neither_is_a_number(self):
        for wrong in BAD_NUMBERS:
            for other in BAD_NUMBERS:
                for room in (1, 0, None):
                    refuses(self, BadNumber, of_full, wrong, other, room)

    def test_no_room(self):
        for room in WRONG_ROOMS:
            for many in (1, 2, 60, 61, VERY_GREAT):
                refuses(self, BadRoom, of_row, many, room)
                for levels in (1, 2, 60, 61, VERY_GREAT):
                    refuses(self, BadRoom, of_full, many, levels, room)


if __name__ == "__main__":
    unittest.main()
