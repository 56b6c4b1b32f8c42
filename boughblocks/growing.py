"""The grove: a tree that grows and is cut."""

from boughblocks.checks import MOST_KNOTS, check_knot, check_room
from boughblocks.errors import Bare, TooGreat
from boughblocks.heights import least


class Grove:
    """A room and a tree, at first the root alone."""

    def __init__(self, room):
        check_room(room)
        self._room = room
        self._parents = [-1]

    def put(self, knot):
        """Put a new last knot under the knot; its count."""
        check_knot(self._parents, knot)
        if len(self._parents) >= MOST_KNOTS:
            raise TooGreat("there are 60 knots")
        self._parents.append(knot)
        return len(self._parents) - 1

    def take(self):
        """Take the last knot; its parent."""
        if len(self._parents) == 1:
            raise Bare("there is the root alone")
        return self._parents.pop()

    def tree(self):
        """The tree as it is."""
        return list(self._parents)

    def least_height(self):
        """The least height of all layings of the tree that keep to the room."""
        return least(self._parents, self._room).height

    def least_laying(self):
        """A laying of the tree that keeps to the room, has the least height, and whose blocks hang together."""
        return least(self._parents, self._room).laying
