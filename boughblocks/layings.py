"""Layings: their blocks' counts, the blocks that are read, the parted laying, the price."""

from boughblocks.checks import check_blocks, check_laying, check_tree, check_weights, counted_anew


def reads_of(tree, laying):
    """How many blocks are read on the way to each knot; asked with a tree and its laying alone."""
    told = [1]
    for knot in range(1, len(tree)):
        parent = tree[knot]
        if laying[knot] == laying[parent]:
            told.append(told[parent])
        else:
            told.append(told[parent] + 1)
    return told


def full_blocks(room, laying):
    """The blocks that have more knots than the room, rising; asked with a laying alone."""
    return [block for block in range(max(laying) + 1) if laying.count(block) > room]


def laid_together(tree, joined):
    """The laying in which a knot lies in its parent's block just if it is one of the joined ones."""
    told = [0]
    for knot in range(1, len(tree)):
        if knot in joined:
            told.append(told[tree[knot]])
        else:
            told.append(max(told) + 1)
    return told


def named(tree, blocks):
    """The laying of these blocks, which may be any numbers, one for each knot."""
    check_tree(tree)
    check_blocks(tree, blocks)
    return counted_anew(blocks)


def reads(tree, laying):
    """How many blocks are read on the way to each knot."""
    check_tree(tree)
    check_laying(tree, laying)
    return reads_of(tree, laying)


def height(tree, laying):
    """The most blocks that are read on a way."""
    return max(reads(tree, laying))


def hanging(tree, laying):
    """The laying parted: its blocks are the parts of the laying's blocks that hang together."""
    check_tree(tree)
    check_laying(tree, laying)
    joined = [knot for knot in range(1, len(tree)) if laying[knot] == laying[tree[knot]]]
    return laid_together(tree, joined)


def price(tree, laying, weights):
    """Over all knots, the weight times the blocks that are read on the way, together."""
    check_tree(tree)
    check_laying(tree, laying)
    check_weights(tree, weights)
    return sum([weight * many for weight, many in zip(weights, reads_of(tree, laying))])
