"""The answers: what is told of a tree and a room, and whether it shows itself to be so."""

from boughblocks.checks import is_laying, is_number
from boughblocks.layings import full_blocks, reads_of
from boughblocks.trees import children_of


def is_pair(value):
    """Whether the value is a pair of a height and a count of knots, both from 1 on."""
    if not isinstance(value, tuple) or len(value) != 2:
        return False
    return all([is_number(each) and each >= 1 for each in value])


def is_paper(value, many):
    """Whether the value is a paper of a tree with so many knots, made sure or not."""
    if not isinstance(value, list) or len(value) != many:
        return False
    return all([is_pair(each) for each in value])


def greatest_pair(pairs, room):
    """The greatest pair that a knot may have whose children have these pairs."""
    high = max([pair[0] for pair in pairs], default=1)
    many = 1 + sum([pair[1] for pair in pairs if pair[0] == high])
    if many <= room:
        return (high, many)
    return (high + 1, 1)


class Answer:
    """What is told of a tree, a room and what else was asked with."""


class Good(Answer):
    """The laying keeps to the room, and this is its height."""

    def __init__(self, height):
        self.height = height

    def shows(self, tree, room, laying):
        """Whether it is so of this tree, room and laying."""
        if not is_number(self.height) or not is_laying(laying, len(tree)):
            return False
        if full_blocks(room, laying):
            return False
        return self.height == max(reads_of(tree, laying))


class Full(Answer):
    """The laying doesn't keep to the room: this block has more knots."""

    def __init__(self, block):
        self.block = block

    def shows(self, tree, room, laying):
        """Whether it is so of this tree, room and laying."""
        if not is_number(self.block) or not is_laying(laying, len(tree)):
            return False
        return self.block in full_blocks(room, laying)


class Least(Answer):
    """The least height of all layings that keep to the room, with such a laying."""

    def __init__(self, height, laying):
        self.height = height
        self.laying = list(laying)


class High(Answer):
    """A paper: if it is made sure, no laying that keeps to the room is lower than its root's height."""

    def __init__(self, pairs):
        self.pairs = list(pairs)

    def shows(self, tree, room):
        """Whether it is a paper of a pair for each knot that is made sure."""
        if not is_paper(self.pairs, len(tree)):
            return False
        for knot, pair in enumerate(self.pairs):
            below = [self.pairs[child] for child in children_of(tree, knot)]
            if pair > greatest_pair(below, room):
                return False
        return True


class Best(Answer):
    """The least price of all layings that keep to the room, with such a laying."""

    def __init__(self, price, laying):
        self.price = price
        self.laying = list(laying)
