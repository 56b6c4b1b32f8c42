"""The refusals: each is a BoughError, and so a ValueError."""


class BoughError(ValueError):
    """What was handed in is refused."""


class BadTree(BoughError):
    """It is no tree."""


class BadKnot(BoughError):
    """It is no knot of the tree."""


class BadRoom(BoughError):
    """It is no room."""


class BadLaying(BoughError):
    """It is no laying of the tree."""


class BadWeights(BoughError):
    """They are no weights of the tree's knots."""


class BadTrees(BoughError):
    """It is no list of trees."""


class BadNumber(BoughError):
    """It is no number from 1 on."""


class TooGreat(BoughError):
    """The tree would have too many knots."""


class Bare(BoughError):
    """The tree has the root alone."""
