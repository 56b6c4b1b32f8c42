"""Trees: their knots, their parts, and trees put under a new root."""

from boughblocks.checks import MOST_KNOTS, check_knot, check_tree, check_trees
from boughblocks.errors import TooGreat


def children_of(tree, knot):
    """The children of the knot, rising; asked with a tree and its knot alone."""
    return [other for other, parent in enumerate(tree) if parent == knot]


def tree_of(tree, knots):
    """The tree of these knots, the first of them its root, each other one behind its parent."""
    return [-1] + [knots.index(tree[knot]) for knot in knots[1:]]


def children(tree, knot):
    """The children of the knot, rising."""
    check_tree(tree)
    check_knot(tree, knot)
    return children_of(tree, knot)


def way(tree, knot):
    """The knots from the root to the knot."""
    check_tree(tree)
    check_knot(tree, knot)
    upward = [knot]
    while upward[-1] != 0:
        upward.append(tree[upward[-1]])
    return upward[::-1]


def below(tree, knot):
    """The knots whose way has the knot, rising."""
    check_tree(tree)
    check_knot(tree, knot)
    found = [knot]
    # A parent has a lesser count than its child, so it is found before the child is asked for.
    for other in range(knot + 1, len(tree)):
        if tree[other] in found:
            found.append(other)
    return found


def part(tree, knot):
    """The tree of what hangs below the knot."""
    return tree_of(tree, below(tree, knot))


def leaves(tree):
    """The knots without children, rising."""
    check_tree(tree)
    return [knot for knot in range(len(tree)) if not children_of(tree, knot)]


def in_turn(tree):
    """The knots in turn, and the tree whose knots are counted so."""
    check_tree(tree)
    turn = []
    waiting = [0]
    while waiting:
        knot = waiting.pop()
        turn.append(knot)
        # The last that waits goes first, so the first child is put last.
        waiting.extend(children_of(tree, knot)[::-1])
    return (turn, tree_of(tree, turn))


def put_under(trees):
    """The tree of a new root with the trees' roots as its children."""
    check_trees(trees)
    if 1 + sum([len(tree) for tree in trees]) > MOST_KNOTS:
        raise TooGreat("more than 59 knots together")
    told = [-1]
    for tree in trees:
        first = len(told)
        told.append(0)
        told.extend([first + parent for parent in tree[1:]])
    return told
