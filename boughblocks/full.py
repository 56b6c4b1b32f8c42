"""The least height of rows and of full trees, told at once, however many knots they have."""

from boughblocks.checks import check_many, check_room


def levels_of_block(many, room):
    """How many levels, at most, a full tree of so many children has that lies in one block."""
    levels = 1
    knots = 1
    # With one level more, each of so many children is the root of such a tree.
    while 1 + many * knots <= room:
        knots = 1 + many * knots
        levels += 1
    return levels


def parts_of(whole, most):
    """How many parts, each of so much at most, make the whole."""
    return (whole + most - 1) // most


def of_row(knots, room):
    """The least height of a row of so many knots."""
    check_many(knots)
    check_room(room)
    return parts_of(knots, room)


def of_full(many, levels, room):
    """The least height of a full tree of so many children and levels."""
    check_many(many)
    check_many(levels)
    check_room(room)
    # The knots of a level hang over equal trees, so the fewest blocks are read if each block takes whole levels.
    return parts_of(levels, levels_of_block(many, room))
