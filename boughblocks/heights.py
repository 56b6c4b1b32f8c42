"""The least height of all layings that keep to a room, with such a laying and a paper; and layings judged."""

from boughblocks.answers import Full, Good, High, Least, greatest_pair
from boughblocks.checks import check_laying, check_room, check_tree
from boughblocks.layings import full_blocks, laid_together, reads_of
from boughblocks.trees import children_of


def greatest_pairs(tree, room):
    """The paper that is made sure and has the greatest pairs; asked with a tree and a room alone."""
    pairs = [(1, 1)] * len(tree)
    # A child has a greater count than its parent, so its pair is made before its parent's.
    for knot in range(len(tree) - 1, -1, -1):
        pairs[knot] = greatest_pair([pairs[child] for child in children_of(tree, knot)], room)
    return pairs


def least(tree, room):
    """The least height of all layings that keep to the room, with such a laying, whose blocks hang together."""
    check_tree(tree)
    check_room(room)
    pairs = greatest_pairs(tree, room)
    # A knot's pair counts just the children of its own height, so with them its block still keeps to the room.
    joined = [knot for knot in range(1, len(tree)) if pairs[knot][0] == pairs[tree[knot]][0]]
    return Least(pairs[0][0], laid_together(tree, joined))


def paper(tree, room):
    """A paper that is made sure, whose root's height is the least height."""
    check_tree(tree)
    check_room(room)
    return High(greatest_pairs(tree, room))


def judged(tree, room, laying):
    """Good, if the laying keeps to the room, with its height; else Full, with a block that has more knots."""
    check_tree(tree)
    check_room(room)
    check_laying(tree, laying)
    blocks = full_blocks(room, laying)
    if blocks:
        return Full(blocks[0])
    return Good(max(reads_of(tree, laying)))
