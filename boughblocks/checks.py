"""What is a number, a tree, a knot, a room, a laying, weights; and the refusal of what is none.

No refusal shows what was refused: a very great number has no text in Python.
"""

from boughblocks.errors import BadKnot, BadLaying, BadNumber, BadRoom, BadTree, BadTrees, BadWeights

MOST_KNOTS = 60
MOST_ROOM = 60


def is_number(value):
    """Whether the value is a whole number."""
    # Python counts True and False among the integers; the document says that they are no numbers.
    return isinstance(value, int) and not isinstance(value, bool)


def is_parent(value, knot):
    """Whether the value may stand in a tree as the parent of that knot."""
    if not is_number(value):
        return False
    if knot == 0:
        return value == -1
    return 0 <= value < knot


def is_tree(value):
    """Whether the value is a tree."""
    if not isinstance(value, list):
        return False
    if not 1 <= len(value) <= MOST_KNOTS:
        return False
    return all([is_parent(parent, knot) for knot, parent in enumerate(value)])


def are_numbers(value, many):
    """Whether the value is a list of so many numbers."""
    if not isinstance(value, list) or len(value) != many:
        return False
    return all([is_number(each) for each in value])


def counted_anew(blocks):
    """The blocks, one for each knot, counted as they are first met."""
    counts = {}
    for block in blocks:
        if block not in counts:
            counts[block] = len(counts)
    return [counts[block] for block in blocks]


def is_laying(value, many):
    """Whether the value is a laying of a tree with so many knots."""
    return are_numbers(value, many) and value == counted_anew(value)


def check_tree(tree):
    """Refuse what is no tree."""
    if not is_tree(tree):
        raise BadTree("no tree: a list of 1 to 60 parents, each lesser than its knot, that of knot 0 being -1")


def check_knot(tree, knot):
    """Refuse what is no knot of the tree."""
    if not is_number(knot) or not 0 <= knot < len(tree):
        raise BadKnot("no knot of the tree: a number from 0 on, below the many of its knots")


def check_room(room):
    """Refuse what is no room."""
    if not is_number(room) or not 1 <= room <= MOST_ROOM:
        raise BadRoom("no room: a number from 1 to 60")


def check_many(value):
    """Refuse what is no number from 1 on."""
    if not is_number(value) or value < 1:
        raise BadNumber("no number from 1 on")


def check_trees(trees):
    """Refuse what is no list of trees."""
    if not isinstance(trees, list) or not all([is_tree(tree) for tree in trees]):
        raise BadTrees("no list of trees")


def check_blocks(tree, blocks):
    """Refuse what is no list of a number for each knot."""
    if not are_numbers(blocks, len(tree)):
        raise BadLaying("no list of a number for each knot")


def check_laying(tree, laying):
    """Refuse what is no laying of the tree."""
    if not is_laying(laying, len(tree)):
        raise BadLaying("no laying: a list of a block for each knot, counted as they are first met")


def check_weights(tree, weights):
    """Refuse what are no weights of the tree's knots."""
    if not are_numbers(weights, len(tree)) or min(weights) < 0:
        raise BadWeights("no weights: a list of a number from 0 on for each knot")
