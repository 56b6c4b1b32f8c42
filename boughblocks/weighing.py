"""The least price by weights of all layings that keep to a room, with such a laying.

A block is read on the way to all knots that hang below its first knot, so it costs the weights of these, together;
a laying's price is what its blocks cost. A choice is a pair: what the blocks that begin further down cost, and the
knots that lie in their parents' blocks. Of a knot the choices are kept by the count of knots in its block.
"""

from boughblocks.answers import Best
from boughblocks.checks import check_room, check_tree, check_weights
from boughblocks.layings import laid_together


def weights_below(tree, weights):
    """For each knot the weights of what hangs below it, together."""
    sums = list(weights)
    for knot in range(len(tree) - 1, 0, -1):
        sums[tree[knot]] += sums[knot]
    return sums


def cheapest_choice(choices):
    """The choice that costs least, however many knots are in the block."""
    return min(list(choices.values()), key=lambda choice: choice[0])


def choices_above(choices, knot, cost):
    """A knot's choices as its parent has them, by the count of knots that come into the parent's block."""
    told = {}
    for many, (spent, joined) in choices.items():
        told[many] = (spent, joined + [knot])
    spent, joined = cheapest_choice(choices)
    told[0] = (spent + cost, joined)
    return told


def choices_with(choices, added, room):
    """A knot's choices when those of one more child are added: for each count the one that costs least."""
    told = {}
    for many, (spent, joined) in choices.items():
        for more, (further, others) in added.items():
            together = many + more
            if together > room:
                continue
            if together not in told or spent + further < told[together][0]:
                told[together] = (spent + further, joined + others)
    return told


def cheapest(tree, room, weights):
    """The least price of all layings that keep to the room, with such a laying, whose blocks hang together."""
    check_tree(tree)
    check_room(room)
    check_weights(tree, weights)
    costs = weights_below(tree, weights)
    choices = [{1: (0, [])} for _ in tree]
    # A child has a greater count than its parent, so all children of a knot are added before it is.
    for knot in range(len(tree) - 1, 0, -1):
        added = choices_above(choices[knot], knot, costs[knot])
        choices[tree[knot]] = choices_with(choices[tree[knot]], added, room)
    spent, joined = cheapest_choice(choices[0])
    return Best(spent + costs[0], laid_together(tree, joined))
