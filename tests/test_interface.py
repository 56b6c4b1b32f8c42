"""The interface: each name stands in its file, and takes its arguments by their names, too."""

import unittest

from boughblocks import answers, full, growing, heights, layings, trees, weighing

TREE = [-1, 0, 0]
LAYING = [0, 0, 1]
WEIGHTS = [1, 2, 3]


class TestInterface(unittest.TestCase):

    def test_functions_of_trees(self):
        self.assertEqual(trees.children(tree=TREE, knot=0), [1, 2])
        self.assertEqual(trees.way(tree=TREE, knot=2), [0, 2])
        self.assertEqual(trees.below(tree=TREE, knot=0), [0, 1, 2])
        self.assertEqual(trees.part(tree=TREE, knot=1), [-1])
        self.assertEqual(trees.leaves(tree=TREE), [1, 2])
        self.assertEqual(trees.in_turn(tree=TREE), ([0, 1, 2], [-1, 0, 0]))
        self.assertEqual(trees.put_under(trees=[TREE]), [-1, 0, 1, 1])

    def test_functions_of_layings(self):
        self.assertEqual(layings.named(tree=TREE, blocks=[5, 5, 4]), LAYING)
        self.assertEqual(layings.reads(tree=TREE, laying=LAYING), [1, 1, 2])
        self.assertEqual(layings.height(tree=TREE, laying=LAYING), 2)
        self.assertEqual(layings.hanging(tree=TREE, laying=LAYING), LAYING)
        self.assertEqual(layings.price(tree=TREE, laying=LAYING, weights=WEIGHTS), 9)

    def test_classes_of_answers(self):
        self.assertIs(answers.Good(height=2).shows(tree=TREE, room=2, laying=LAYING), True)
        self.assertIs(answers.Full(block=0).shows(tree=TREE, room=1, laying=LAYING), True)
        self.assertIs(answers.High(pairs=[(2, 1), (1, 1), (1, 1)]).shows(tree=TREE, room=2), True)
        least = answers.Least(height=2, laying=LAYING)
        self.assertEqual((least.height, least.laying), (2, LAYING))
        best = answers.Best(price=9, laying=LAYING)
        self.assertEqual((best.price, best.laying), (9, LAYING))

    def test_functions_of_heights_and_weighing(self):
        least = heights.least(tree=TREE, room=2)
        self.assertEqual((least.height, len(least.laying)), (2, 3))
        self.assertEqual(heights.paper(tree=TREE, room=2).pairs[0][0], 2)
        self.assertEqual(heights.judged(tree=TREE, room=2, laying=LAYING).height, 2)
        self.assertEqual(heights.judged(tree=TREE, room=1, laying=LAYING).block, 0)
        best = weighing.cheapest(tree=TREE, room=2, weights=WEIGHTS)
        self.assertEqual((best.price, best.laying), (8, [0, 1, 0]))

    def test_class_of_growing(self):
        grove = growing.Grove(room=2)
        self.assertEqual(grove.put(knot=0), 1)
        self.assertEqual(grove.tree(), [-1, 0])
        self.assertEqual(grove.least_height(), 1)
        self.assertEqual(grove.least_laying(), [0, 0])
        self.assertEqual(grove.take(), 0)

    def test_functions_of_full(self):
        self.assertEqual(full.of_row(knots=7, room=2), 4)
        self.assertEqual(full.of_full(many=2, levels=4, room=3), 2)

    def test_each_is_defined_in_its_file(self):
        for module, names in (
                (trees, "children way below part leaves in_turn put_under"),
                (layings, "named reads height hanging price"),
                (answers, "Answer Good Full Least High Best"),
                (heights, "least paper judged"),
                (weighing, "cheapest"),
                (growing, "Grove"),
                (full, "of_row of_full")):
            for name in names.split():
                self.assertEqual(getattr(module, name).__module__, module.__name__, name)

    def test_each_class_has_its_own_methods(self):
        for one in (answers.Good, answers.Full, answers.High):
            self.assertIn("shows", vars(one))
        for name in ("put", "take", "tree", "least_height", "least_laying"):
            self.assertIn(name, vars(growing.Grove))


if __name__ == "__main__":
    unittest.main()
