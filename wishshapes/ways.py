"""Paths, fractions and ways: what they are, and whether they fit within the roads and meet the wishes."""

from math import gcd

from wishshapes.nets import is_number, is_tuple, is_within

NOTHING = (0, 1)


def reduced(upper, lower):
    """Return the fraction that stands for upper / lower."""
    common = gcd(upper, lower)
    return upper // common, lower // common


def added(first, second):
    """Return the sum of two fractions."""
    return reduced(first[0] * second[1] + second[0] * first[1], first[1] * second[1])


def is_fraction(value):
    """Tell whether the value is a fraction from 0 on (point 4)."""
    if not is_tuple(value, 2, 2):
        return False
    upper, lower = value
    return is_number(upper, 0) and is_number(lower, 1) and gcd(upper, lower) == 1


def is_positive(value):
    """Tell whether the value is a fraction greater than 0."""
    return is_fraction(value) and value != NOTHING


def steps(path):
    """Return the list of the pairs of neighbours in the path, the lesser point first."""
    return [(min(here, there), max(here, there)) for here, there in zip(path, path[1:])]


def is_path(net, one, other, value):
    """Tell whether the value is a path of the net from the one point to the other (point 7)."""
    points, roads = net
    if not is_tuple(value, 2, points) or not all([is_within(point, 0, points - 1) for point in value]):
        return False
    if value[0] != one or value[-1] != other or len(set(value)) < len(value):
        return False
    joined = [road[:2] for road in roads]
    return all([step in joined for step in steps(value)])


def paths_between(net, one, other):
    """Return the list of all paths of the net from the one point to the other."""
    joined = [road[:2] for road in net[1]]
    found, waiting = [], [(one,)]
    while waiting:
        path = waiting.pop()
        here = path[-1]
        if here == other:
            found.append(path)
        else:
            near = [there for there in range(net[0]) if (min(here, there), max(here, there)) in joined]
            waiting.extend([(*path, there) for there in near if there not in path])
    return found


def fit(net, loads):
    """Tell whether, for each road, the fractions of the pairs (path, fraction) along it are at most its width."""
    sums = {}
    for path, amount in loads:
        for step in steps(path):
            sums[step] = added(sums.get(step, NOTHING), amount)
    totals = [(sums.get((one, other), NOTHING), width) for one, other, width in net[1]]
    return all([total[0] <= width * total[1] for total, width in totals])


def is_way(net, wishes, value):
    """Tell whether the value is the index of a wish, a path for it and a fraction greater than 0."""
    if not is_tuple(value, 3, 3):
        return False
    index, path, amount = value
    if not is_within(index, 0, len(wishes) - 1):
        return False
    one, other, _ = wishes[index]
    return is_path(net, one, other, path) and is_positive(amount)


def are_ways(net, wishes, value):
    """Tell whether the value is ways for the wishes, of whatever amounts."""
    return type(value) == tuple and all([is_way(net, wishes, item) for item in value])


def are_adding(net, wishes, totals, value):
    """Tell whether the value is ways that add up to the total of each wish, a fraction, and fit within the roads."""
    if not are_ways(net, wishes, value):
        return False
    sums = [NOTHING] * len(wishes)
    for index, _, amount in value:
        sums[index] = added(sums[index], amount)
    return sums == totals and fit(net, [(path, amount) for _, path, amount in value])


def are_meeting(net, wishes, value):
    """Tell whether the value is ways that meet the wishes; here the amount of a wish may be 0 and more than 6."""
    return are_adding(net, wishes, [(amount, 1) for _, _, amount in wishes], value)
