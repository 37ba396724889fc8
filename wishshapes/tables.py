"""Tables of the most between all points, their trees, and numbers that are such tables."""

from itertools import combinations

from wishshapes.errors import BadValue
from wishshapes.nets import (LEAST_POINTS, MOST_POINTS, MOST_WIDTH, is_ascending, is_net, is_pair, is_tuple,
                             is_within, is_word, need_net, parts)
from wishshapes.single import most


def is_number_for(value, pair, points):
    """Tell whether the value is a triple of these two points and a number that they may have."""
    if not is_tuple(value, 3, 3) or not is_pair(value[:2], points):
        return False
    return value[:2] == pair and is_within(value[2], 0, MOST_WIDTH)


def are_numbers(value, points):
    """Tell whether the value is numbers for so many points (point 31)."""
    pairs = list(combinations(range(points), 2))
    if not is_tuple(value, len(pairs), len(pairs)):
        return False
    return all([is_number_for(item, pair, points) for item, pair in zip(value, pairs)])


def need_numbers(points, numbers):
    """Raise BadValue if the points are not so many as a net may have, or the numbers are not numbers for them."""
    if not is_within(points, LEAST_POINTS, MOST_POINTS):
        raise BadValue("points")
    if not are_numbers(numbers, points):
        raise BadValue("numbers")


def in_turn(points, triples):
    """Return the list of the triples that connect points not yet connected, the greatest numbers first."""
    # Points that the triples taken so far lead between have the same mark.
    marks = list(range(points))
    chosen = []
    for one, other, number in sorted(triples, key=lambda triple: (-triple[2], triple)):
        low, high = marks[one], marks[other]
        if low != high:
            chosen.append((one, other, number))
            marks = [low if mark == high else mark for mark in marks]
    return chosen


def leading(points, triples):
    """Return the triples that the tree takes from these (point 30)."""
    return tuple(sorted(in_turn(points, triples)))


def comes_once(numbers, three):
    """Tell whether the least of the numbers between these three points comes once only."""
    between = sorted([number for one, other, number in numbers if one in three and other in three])
    return between[0] < between[1]


def are_roads_for(points, numbers, value):
    """Tell whether the value is roads without a ring whose table is these numbers."""
    net = (points, value)
    if not is_net(net):
        return False
    # Each road that closes no ring makes one part of two.
    return len(parts(net)) + len(value) == points and table(net) == numbers


def table(net):
    """Return the table of the net."""
    need_net(net)
    return tuple([(one, other, most(net, one, other)) for one, other in combinations(range(net[0]), 2)])


def tree(net):
    """Return the tree of the net's table."""
    need_net(net)
    return leading(net[0], table(net))


def numbers_evidence(points, numbers):
    """Return evidence about the numbers (point 32)."""
    need_numbers(points, numbers)
    for three in combinations(range(points), 3):
        if comes_once(numbers, three):
            return ("three", *three)
    return "roads", tuple([triple for triple in leading(points, numbers) if triple[2] > 0])


def accepts_numbers(points, numbers, value):
    """Return True if the value is evidence of either word about the numbers, otherwise False."""
    need_numbers(points, numbers)
    if is_tuple(value, 2, 2):
        return is_word(value[0], "roads") and are_roads_for(points, numbers, value[1])
    if not is_tuple(value, 4, 4) or not is_word(value[0], "three"):
        return False
    three = value[1:]
    if not all([is_within(point, 0, points - 1) for point in three]):
        return False
    return is_ascending(three) and comes_once(numbers, three)
