"""Looks at least heights and least prices: all layings tried, all cuts tried, and tables from the leaves up."""

from copy import deepcopy
from itertools import product

from boughblocks.answers import Best, Full, Good, High, Least
from tests.looks import (NO_NUMBERS, VERY_GREAT, all_layings, chain, fork, kinds, lists_in, look_keeps, look_named,
                         look_reads, scattered, star)

FIELDS = {Good: ("height",), Full: ("block",), Least: ("height", "laying"), High: ("pairs",),
          Best: ("price", "laying")}

WRONG_ROOMS = NO_NUMBERS + [0, -1, -2, -59, -60, -61, 61, 62, 120, 10 ** 9, 2 ** 64, VERY_GREAT, -VERY_GREAT,
                            [1], (1,), {1}, {1: 1}, "60", b"1"]


def wrong_trees(tree):
    """The tree spoiled in a few ways, so that the rest of what is handed in is still of its length."""
    return [[wrong, *tree[1:]] for wrong in (0, -2, True, None)] + [tuple(tree)] + [
        [*tree[:-1], wrong] for wrong in (len(tree) - 1, -2, True, "0", None)]


def full_tree(many, levels):
    """A full tree, counted level by level."""
    told, last = [-1], [0]
    for _ in range(1, levels):
        new = []
        for parent in last:
            for _ in range(many):
                new.append(len(told))
                told.append(parent)
        last = new
    return told


def comb(knots):
    """A row whose knots have a leaf each."""
    return [-1] + [knot - 1 if knot % 2 else max(knot - 2, 0) for knot in range(1, knots)]


def brooms(knots):
    """A row with a star at its end."""
    return [-1] + [min(knot - 1, knots // 2) for knot in range(1, knots)]


def some_trees():
    """Trees of many forms with 7 to 60 knots."""
    told = [form(knots) for knots in (7, 23, 59, 60) for form in (chain, star, fork, comb, brooms)]
    told += [scattered(knots, step) for knots in (12, 31, 60) for step in (1, 7, 13)]
    told += [[-1] + [(knot - 1) // 3 for knot in range(1, 60)],
             [-1] + [max(0, knot - 1 - knot * knot % 5) for knot in range(1, 60)],
             [-1] + [max(0, knot - 1 - knot * knot % 3) for knot in range(1, 60)]]
    return told


def kids_of(tree):
    told = [[] for _ in tree]
    for knot in range(1, len(tree)):
        told[tree[knot]].append(knot)
    return told


def tried(tree):
    """Of each laying the knots of its greatest block, and the blocks that are read on the way to each knot."""
    return [(max(laying.count(block) for block in laying), look_reads(tree, laying))
            for laying in all_layings(len(tree))]


def cut(tree):
    """As `tried`, of each laying whose blocks hang together: each knot lies in its parent's block or in its own."""
    told = []
    for cuts in product((0, 1), repeat=len(tree) - 1):
        reads, tops = [1], [0]
        for knot, apart in enumerate(cuts, start=1):
            reads.append(reads[tree[knot]] + apart)
            tops.append(knot if apart else tops[tree[knot]])
        told.append((max(tops.count(top) for top in tops), reads))
    return told


def least_height_of(looked, room):
    return min(max(reads) for most, reads in looked if most <= room)


def least_price_of(looked, room, weights):
    return min(sum(weight * many for weight, many in zip(weights, reads)) for most, reads in looked if most <= room)


def table_height(tree, room):
    """The least height, by the fewest knots in a knot's block if what hangs below it is to be no higher than that."""
    kids, lower = kids_of(tree), {}
    for high in range(1, len(tree) + 1):
        fewest = {}
        for knot in reversed(range(len(tree))):
            close = [child for child in kids[knot] if child not in lower]
            if all(child in fewest for child in close):
                many = 1 + sum(fewest[child] for child in close)
                if many <= room:
                    fewest[knot] = many
        if 0 in fewest:
            return high
        lower = fewest
    return None


def look_order(tree):
    """The knots, each followed by what hangs below it, and how many knots hang below each."""
    kids, order, waiting = kids_of(tree), [], [0]
    while waiting:
        order.append(waiting.pop())
        waiting += kids[order[-1]]
    sizes = [1] * len(tree)
    for knot in range(len(tree) - 1, 0, -1):
        sizes[tree[knot]] += sizes[knot]
    return order, sizes


def table_price(tree, room, weights):
    """The least price, knot by knot from the last: all blocks that may begin at a knot, by a row of the knots below.

    If a block begins at a knot, the price below it is its weights and the prices at all knots just outside of the
    block; a knot that comes into the block takes its own price away and brings its children's prices.
    """
    kids = kids_of(tree)
    order, sizes = look_order(tree)
    place = {knot: at for at, knot in enumerate(order)}
    sums, alone, gain = list(weights), [0] * len(tree), [0] * len(tree)
    for knot in range(len(tree) - 1, 0, -1):
        sums[tree[knot]] += sums[knot]
    for knot in reversed(range(len(tree))):
        first, behind = place[knot] + 1, place[knot] + sizes[knot]
        rows = {behind: [0] * room}
        for at in range(behind - 1, first - 1, -1):
            other = order[at]
            without, inside = rows[at + sizes[other]], rows[at + 1]
            rows[at] = [min(without[left], gain[other] + inside[left - 1]) if left else without[0]
                        for left in range(room)]
        outside = sum(alone[child] for child in kids[knot])
        alone[knot] = sums[knot] + outside + rows[first][room - 1]
        gain[knot] = outside - alone[knot]
    return alone[0]


def is_right_laying(test, tree, room, laying):
    """A laying of the tree that keeps to the room and whose blocks hang together."""
    test.assertEqual(kinds(laying), (list, [int] * len(tree)))
    test.assertEqual(look_named(laying), laying)
    test.assertTrue(look_keeps(room, laying))
    tops = [laying[knot] for knot in range(len(tree)) if knot == 0 or laying[tree[knot]] != laying[knot]]
    test.assertEqual(len(set(tops)), len(tops), "a block doesn't hang together")


def look_price(reads, weights):
    return sum(weight * many for weight, many in zip(weights, reads))


def fields_of(answer):
    return [getattr(answer, name) for name in FIELDS[type(answer)]]


def answered(test, one, function, *handed):
    """The answer, if it is of just that class, its lists are the asker's own, and what was handed in stays."""
    before = deepcopy(handed)
    told, other = function(*handed), function(*handed)
    test.assertIs(type(told), one)
    test.assertEqual(handed, before)
    test.assertEqual(kinds(handed), kinds(before))
    fields = deepcopy(fields_of(told))
    test.assertIn(kinds(fields[0]), (int, (list, [(tuple, [int, int])] * len(handed[0]))))
    lists = lists_in([*handed, fields_of(told), fields_of(other)])
    test.assertEqual(len({id(each) for each in lists}), len(lists))
    for each in lists_in(fields_of(told)):
        each[0] = "changed"
        each.append("changed")
    test.assertEqual(fields_of(other), fields)
    test.assertEqual(handed, before)
    again = function(*handed)
    test.assertIs(type(again), one)
    test.assertEqual(fields_of(again), fields)
    return again
