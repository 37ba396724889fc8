"""Judges that add up on their own, apart from the program, to hold its answers against."""

from fractions import Fraction

from samples import crosses, masks, steps, sum_across


def is_right_path(net, one, other, path):
    """Tell whether the path, whose form is right, leads along the roads of the net from the one to the other."""
    joined = [road[:2] for road in net[1]]
    if path[0] != one or path[-1] != other or len(path) < 2 or len(set(path)) < len(path):
        return False
    return all(step in joined for step in steps(path))


def fit_in(net, loads):
    """Tell whether the amounts of the pairs (path, amount) are, at each road, at most its width."""
    for one, other, width in net[1]:
        if sum(amount for path, amount in loads if (one, other) in steps(path)) > width:
            return False
    return True


def is_right_bundle(net, one, other, bundle):
    """Tell whether the tuple of pairs (path, integer) is a bundle."""
    if not all(amount >= 1 and is_right_path(net, one, other, path) for path, amount in bundle):
        return False
    return fit_in(net, bundle)


def as_fraction(pair):
    """Return the number that the pair stands for."""
    return Fraction(pair[0], pair[1])


def are_right_ways(net, wishes, ways, share=1):
    """Tell whether ways, whose form is right, meet this share of the wishes; an amount may be 0."""
    for index, path, amount in ways:
        if as_fraction(amount) <= 0 or not is_right_path(net, wishes[index][0], wishes[index][1], path):
            return False
    sums = [sum(as_fraction(amount) for index, _, amount in ways if index == wish) for wish in range(len(wishes))]
    if sums != [share * wish[2] for wish in wishes]:
        return False
    return fit_in(net, [(path, as_fraction(amount)) for _, path, amount in ways])


def parting(net, pairs):
    """Return all fences that part each of these pairs, in order."""
    return [fence for fence in masks(net[0]) if all(crosses(pair, fence) for pair in pairs)]


def least_width(net, pairs):
    """Return the least width of a fence that parts each of these pairs; widths may be more than 6 here."""
    return min(sum_across(net[1], fence) for fence in parting(net, pairs))


def changed_road(net, index, step):
    """Return the net with the width of the road greater by the step; a road of the width 0 is gone."""
    points, roads = net
    one, other, width = roads[index]
    new = ((one, other, width + step),) if width + step > 0 else ()
    return points, roads[:index] + new + roads[index + 1:]


def with_road(net, one, other):
    """Return the net with a new road of the width 1 between two points that are not joined."""
    points, roads = net
    return points, tuple(sorted(roads + ((one, other, 1),)))


def distances(net, lengths):
    """Return for each two points the least sum of lengths of a path between them, or None."""
    points = range(net[0])
    table = {(one, other): 0 if one == other else None for one in points for other in points}
    for (one, other, _), length in zip(net[1], lengths):
        table[one, other] = table[other, one] = length
    for middle in points:
        for one in points:
            for other in points:
                parts = (table[one, middle], table[middle, other])
                if None not in parts and (table[one, other] is None or sum(parts) < table[one, other]):
                    table[one, other] = sum(parts)
    return table


def is_right_rise(net, lengths, rise):
    """Tell whether the numbers of two joined points differ by at most the length of their road."""
    return all(abs(rise[one] - rise[other]) <= length for (one, other, _), length in zip(net[1], lengths))


def some_rise(net, lengths, chance):
    """Return some rise by the lengths; its numbers may be less than 0."""
    table, start = distances(net, lengths), [chance.randint(-5, 5) for _ in range(net[0])]
    return tuple(min(start[other] + table[one, other] for other in range(net[0]) if table[one, other] is not None)
                 for one in range(net[0]))


def needed(wishes, rises):
    """Return the need, added up."""
    return sum(amount * (rise[other] - rise[one]) for (one, other, amount), rise in zip(wishes, rises))


def worth_by(net, lengths):
    """Return the worth, added up."""
    return sum(road[2] * length for road, length in zip(net[1], lengths))


def rises_from(net, wishes, lengths):
    """Return for each wish the rise from its lesser point."""
    table = distances(net, lengths)
    return tuple(tuple(table[wish[0], point] or 0 for point in range(net[0])) for wish in wishes)
