"""Nets, wishes, fences and wrong values that several tests use."""

import random
from itertools import combinations

RING = (4, ((0, 1, 1), (0, 3, 1), (1, 2, 1), (2, 3, 1)))
ACROSS = ((0, 2, 1), (1, 3, 1))
ROW = (3, ((0, 1, 6), (1, 2, 5)))
BARE = (2, ())
PAIR = (2, ((0, 1, 3),))
TWO_PARTS = (7, ((0, 3, 2), (1, 2, 1), (2, 6, 4), (3, 5, 1), (4, 5, 6)))
FULL = (7, tuple((one, other, 1 + (one + other) % 6) for one, other in list(combinations(range(7), 2))[:15]))
TEN = tuple((one, other, 1 + (one * other) % 6) for one, other in list(combinations(range(7), 2))[-10:])


def nested(start, wrap, depth=100000):
    """Return a value that is nested so deeply that going into it by recursion fails."""
    value = start
    for _ in range(depth):
        value = wrap(value)
    return value


def ring_list():
    """Return a list that holds itself."""
    value = [1]
    value.append(value)
    return value


DEEP_TUPLE = nested((), lambda value: (value,))
DEEP_LIST = nested(0, lambda value: [value])
DEEP_PAIR = nested((2, ()), lambda value: (2, value))

# Of every other kind; none is a net, nor wishes, a fence, some points, an order or a point, nor a width.
ODD_KINDS = (
    None, True, False, -1, 41, 10 ** 50, 2.0, 1.0, float("nan"), 1j, "", "2", "net", b"", b"\x02", [], [0], [1], [[]],
    {}, {0: 1}, {1}, set(), frozenset(), frozenset([1]), range(2), range(0), object(), object, len, bytearray(b"1"),
    (None,), ("",), (True,), (False,), (1.0,), ("1",), ([],), ({},), ((),), ((), ()), (2, None), (2, [], ()), (9,),
    DEEP_TUPLE, DEEP_LIST, DEEP_PAIR, (DEEP_LIST,), (2, DEEP_TUPLE), (2, (DEEP_TUPLE,)), (2, ((0, 1, DEEP_TUPLE),)),
    (2, ((0, DEEP_LIST, 1),)), ((0, 1, DEEP_LIST),), ((DEEP_TUPLE, DEEP_TUPLE, 1),), ring_list(), (1, ring_list()),
)


def masks(points):
    """Return all fences of a net of so many points, in order, found by counting through their members."""
    found = []
    for number in range(1, 2 ** (points - 1)):
        found.append(tuple(point for point in range(1, points) if number >> (point - 1) & 1))
    return sorted(found)


def crosses(link, fence):
    """Tell whether exactly one of the two points of a road, or a wish, is in the fence."""
    return len({link[0], link[1]} & set(fence)) == 1


def sum_across(links, fence):
    """Add up the numbers of what crosses the fence."""
    total = 0
    for link in links:
        if crosses(link, fence):
            total += link[2]
    return total


def links_of(pairs, chance):
    """Return the ascending tuple of links with these points, each with a number from 1 to 6."""
    return tuple((one, other, chance.randint(1, 6)) for one, other in sorted(pairs))


def tasks(many=60, seed=1):
    """Return a list of so many pairs of a net and wishes of it, always the same ones."""
    chance = random.Random(seed)
    found = [(RING, ACROSS), (BARE, ()), (BARE, ((0, 1, 6),)), (PAIR, ((0, 1, 3),)), (TWO_PARTS, ()), (FULL, TEN)]
    while len(found) < many:
        points = 2 + len(found) % 6
        pairs = list(combinations(range(points), 2))
        roads = chance.sample(pairs, chance.randint(0, min(15, len(pairs))))
        wishes = chance.sample(pairs, chance.randint(0, min(10, len(pairs))))
        found.append(((points, links_of(roads, chance)), links_of(wishes, chance)))
    return found


def path_for(points, one, other, chance):
    """Return some path from the one point to the other, as if all points were joined."""
    between = [point for point in range(points) if point not in (one, other)]
    return (one, *chance.sample(between, chance.randint(0, min(3, len(between)))), other)


def steps(path):
    """Return the pairs of neighbours in a path, the lesser point first."""
    return [(min(pair), max(pair)) for pair in zip(path, path[1:])]


def met_tasks(many=60, seed=2):
    """Return triples of a net, wishes and ways that meet them, with roads just as wide as the ways ask."""
    chance = random.Random(seed)
    found = []
    while len(found) < many:
        points = 2 + len(found) % 6
        pairs = list(combinations(range(points), 2))
        widths, wishes, ways = {}, [], []
        for one, other in sorted(chance.sample(pairs, chance.randint(1, min(5, len(pairs))))):
            amounts = [chance.randint(1, 2) for _ in range(chance.randint(1, 2))]
            for amount in amounts:
                path = path_for(points, one, other, chance)
                ways.append((len(wishes), path, amount))
                for step in steps(path):
                    widths[step] = widths.get(step, 0) + amount
            wishes.append((one, other, sum(amounts)))
        if len(widths) <= 15 and max(widths.values()) <= 6:
            roads = tuple((one, other, widths[one, other]) for one, other in sorted(widths))
            found.append(((points, roads), tuple(wishes), ways))
    return found
