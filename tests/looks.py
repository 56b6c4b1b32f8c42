"""What the tests share: trees, layings, wrong values, and looks of their own at the document's words."""

from copy import deepcopy
from itertools import product

from boughblocks.errors import BoughError

# More digits than Python turns into text.
VERY_GREAT = 10 ** 5000

NO_NUMBERS = [True, False, None, "", "0", "1", b"0", b"", [], [0], (), (0,), {}, {0: 0}, set(), {0},
              frozenset(), range(1), int, len, object()]

NO_LISTS = [True, False, None, 0, 1, -1, VERY_GREAT, "", "0", b"", b"\x00", (), (0,), (-1,), (-1, 0), {},
            {0: -1}, {0: 0}, set(), {-1}, {0}, range(1), range(-1, 0), int, len, object()]


def all_trees(knots):
    """Each tree with so many knots."""
    return [[-1, *parents] for parents in product(*[range(knot) for knot in range(1, knots)])]


def all_layings(knots):
    """Each laying of so many knots."""
    told = [[0]]
    for _ in range(1, knots):
        told = [[*laying, block] for laying in told for block in range(max(laying) + 2)]
    return told


def chain(knots):
    """Each knot has one child, but the last."""
    return list(range(-1, knots - 1))


def star(knots):
    """All knots but the root are its children."""
    return [-1] + [0] * (knots - 1)


def fork(knots):
    """Each knot has two children as long as there are knots."""
    return [-1] + [(knot - 1) // 2 for knot in range(1, knots)]


def scattered(knots, step):
    """Parents here and there."""
    return [-1] + [(knot * knot * step + 5 * step + knot // 3) % knot for knot in range(1, knots)]


def great_trees():
    """Trees with 59 and 60 knots."""
    return [tree for knots in (59, 60) for tree in (
        chain(knots), star(knots), fork(knots), scattered(knots, 1), scattered(knots, 7), scattered(knots, 13))]


def great_layings(tree):
    """Layings of a great tree: one block, a block for each knot, and blocks here and there."""
    knots = len(tree)
    return [[0] * knots, list(range(knots))] + [
        look_named([(knot * knot + knot) * step % 11 // 2 for knot in range(knots)]) for step in (1, 3, 5)] + [
        look_named([knot // size for knot in range(knots)]) for size in (2, 7, 30)]


NO_TREES = NO_LISTS + [
    [], chain(61), star(61), chain(1000), [-1] * 61, [0], [1], [-2], [VERY_GREAT], [-VERY_GREAT], [True], [False],
    [None], ["-1"], [[-1]], [(-1,)], [[]], [-1, -1], [-1, 1], [-1, 2], [-1, -2], [-1, VERY_GREAT], [-1, -VERY_GREAT],
    [-1, False], [-1, True], [-1, None], [-1, "0"], [-1, [0]], [0, 0], [0, -1], [-1, 0, True], [-1, 0, False],
    [-1, 0, 2], [-1, 0, 3], [-1, 0, -1], [-1, 2, 0], [-1, 0, 0, 3], [-1, 0, 1, 2, 3, 5], [[-1], [-1]], [-1, b"0"]]


def spoiled_trees():
    """A tree of sixty knots, spoiled at one knot in each of many ways."""
    for tree in (chain(60), star(60), fork(60)):
        for knot in range(60):
            for wrong in (knot, knot + 1, -2, 60, VERY_GREAT, -VERY_GREAT, True, False, None, "0", [0], (0,)):
                yield tree[:knot] + [wrong] + tree[knot + 1:]
            yield tree[:knot] + [-1 if knot else 0] + tree[knot + 1:]


def wrong_knots(tree):
    """What is no knot of the tree."""
    knots = len(tree)
    return NO_NUMBERS + [-1, -2, -knots, -knots - 1, knots, knots + 1, 10 ** 9, VERY_GREAT, -VERY_GREAT]


def wrong_numbers(knots):
    """What is no list of a number for each of so many knots."""
    told = NO_LISTS + [[0] * (knots - 1), [0] * (knots + 1), [0] * (knots + 60), (0,) * knots, "0" * knots,
                       b"0" * knots, range(knots), {knot: 0 for knot in range(knots)}]
    for knot in range(knots):
        told += [[0] * knot + [wrong] + [0] * (knots - knot - 1) for wrong in NO_NUMBERS]
    return told


def wrong_layings(knots):
    """What is no laying of so many knots."""
    told = wrong_numbers(knots)
    told += [list(range(1, knots + 1)), [1] * knots, [-1] * knots, [VERY_GREAT] * knots, [-VERY_GREAT] * knots]
    for knot in range(1, knots):
        told += [list(range(knot)) + [wrong] * (knots - knot) for wrong in (knot + 1, -1, -knot, VERY_GREAT, True)]
    return told


def wrong_weights(knots):
    """What are no weights of so many knots."""
    told = wrong_numbers(knots)
    for knot in range(knots):
        told += [[0] * knot + [wrong] + [1] * (knots - knot - 1) for wrong in (-1, -2, -VERY_GREAT)]
    return told


def look_way(tree, knot):
    return [0] if knot == 0 else look_way(tree, tree[knot]) + [knot]


def look_below(tree, knot):
    return [other for other in range(len(tree)) if knot in look_way(tree, other)]


def look_turn(tree, knot=0):
    told = [knot]
    for other in range(len(tree)):
        if tree[other] == knot:
            told += look_turn(tree, other)
    return told


def look_counted(tree, knots):
    """The tree of these knots, by the places that they have among them."""
    place = {knot: at for at, knot in enumerate(knots)}
    return [-1 if at == 0 else place[tree[knot]] for at, knot in enumerate(knots)]


def look_named(blocks):
    met = []
    for block in blocks:
        if not any(block == other for other in met):
            met.append(block)
    return [met.index(block) for block in blocks]


def look_reads(tree, laying):
    told = []
    for knot in range(len(tree)):
        blocks = [laying[other] for other in look_way(tree, knot)]
        told.append(1 + sum(1 for upper, lower in zip(blocks, blocks[1:]) if upper != lower))
    return told


def look_hanging(tree, laying):
    """Knots are in one block if they were, and if all knots on the path between them were in it, too."""
    ways = [look_way(tree, knot) for knot in range(len(tree))]

    def together(one, other):
        shared = max(set(ways[one]) & set(ways[other]), key=lambda knot: len(ways[knot]))
        path = [knot for way in (ways[one], ways[other]) for knot in way if shared in ways[knot]]
        return {laying[knot] for knot in path} == {laying[one]}

    firsts = []
    for knot in range(len(tree)):
        firsts.append(next(other for other in range(knot + 1) if together(knot, other)))
    return look_named(firsts)


def look_keeps(room, laying):
    return all(sum(1 for other in laying if other == block) <= room for block in laying)


def look_bound(tree, room, pairs, knot):
    """The pair that the knot's pair may not pass."""
    kids = [pairs[other] for other in range(len(tree)) if tree[other] == knot]
    high, many = 1, 1
    if kids:
        high = sorted(kids)[-1][0]
    for height, count in kids:
        if height == high:
            many += count
    return (high, many) if many <= room else (high + 1, 1)


def look_sure(tree, room, pairs):
    """Whether the pairs are a paper that is made sure."""
    if len(pairs) != len(tree):
        return False
    for knot, (height, count) in enumerate(pairs):
        most = look_bound(tree, room, pairs, knot)
        if height < 1 or count < 1 or height > most[0] or (height == most[0] and count > most[1]):
            return False
    return True


def greatest_paper(tree, room):
    """The paper whose pairs are just as great as they may be."""
    pairs = [(0, 0)] * len(tree)
    for knot in reversed(range(len(tree))):
        pairs[knot] = look_bound(tree, room, pairs, knot)
    return pairs


def kinds(value):
    """The value's kinds, so that a True passes for no 1 and a tuple for no list."""
    if isinstance(value, (list, tuple)):
        return type(value), [kinds(each) for each in value]
    return type(value)


def lists_in(value):
    """Each list in the value, itself, too."""
    told = [value] if isinstance(value, list) else []
    if isinstance(value, (list, tuple)):
        for each in value:
            told += lists_in(each)
    return told


def told_by(test, function, *handed):
    """What the function tells, when it leaves what was handed in as it was, and shares no list with it."""
    before = deepcopy(handed)
    told = function(*handed)
    test.assertEqual(handed, before)
    test.assertEqual(kinds(handed), kinds(before))
    theirs = lists_in(list(handed))
    mine = lists_in(told)
    test.assertFalse([each for each in mine if any(each is other for other in theirs)])
    test.assertEqual(len({id(each) for each in mine}), len(mine))
    return told


def tells(test, right, function, *handed):
    """The function tells just this, and tells it again when what it told was changed."""
    told = told_by(test, function, *handed)
    test.assertEqual(told, right, handed)
    test.assertEqual(kinds(told), kinds(right))
    if lists_in(told):
        for each in lists_in(told):
            each.append("changed")
            each[0] = "changed"
        test.assertEqual(function(*handed), right)


def refuses(test, error, function, *handed):
    """The function refuses this by just that error, and leaves what was handed in as it was."""
    before = [list(each) if isinstance(each, list) else each for each in handed]
    try:
        function(*handed)
    except ValueError as caught:
        test.assertIs(type(caught), error)
        test.assertIsInstance(caught, BoughError)
    else:
        test.fail(f"{error.__name__} was due of {function.__name__}")
    for each, other in zip(handed, before):
        if isinstance(each, list):
            test.assertEqual(each, other)
