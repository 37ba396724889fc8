"""Ways between ends: links between some points of a net, and the fences that bound their total."""

from itertools import combinations

from wishshapes.errors import BadValue
from wishshapes.made import raised, times
from wishshapes.nets import (are_rising, are_some, crossing, fences, is_parted, is_tuple, need_net, need_small_net,
                             sums_at)
from wishshapes.ways import NOTHING, added, fit, is_path, is_positive, paths_between, reduced, steps

LEAST_ENDS = 2
MOST_ENDS = 5


def need_ends(net, ends):
    """Raise BadValue if the net is none, or if these are not ends of it."""
    need_net(net)
    if not is_tuple(ends, LEAST_ENDS, MOST_ENDS) or not are_rising(ends, 0, net[0] - 1):
        raise BadValue("ends")


def is_parting(ends, end, fence):
    """Tell whether the fence parts this end from the others (point 94)."""
    inside = [point for point in ends if point in fence]
    return inside == [end] or inside == [point for point in ends if point != end]


def parting_end(points, ends, end):
    """Return the list of the fences of so many points that part this end from the others, in order."""
    return [fence for fence in fences((points, ())) if is_parting(ends, end, fence)]


def is_link_between(net, ends, value):
    """Tell whether the value is a link between the ends (point 93)."""
    if not any([is_path(net, one, other, value) for one, other in combinations(list(ends), 2)]):
        return False
    return not any([point in ends for point in value[1:-1]])


def are_links_between(net, ends, value):
    """Tell whether the value is links between the ends: pairs with fractions that fit within the roads."""
    if type(value) != tuple or not all([is_tuple(item, 2, 2) for item in value]):
        return False
    if not all([is_link_between(net, ends, path) and is_positive(amount) for path, amount in value]):
        return False
    return fit(net, value)


def are_parting_fences(net, ends, value):
    """Tell whether the value is a tuple of fences, one for each end, that part these from the others."""
    if not is_tuple(value, len(ends), len(ends)):
        return False
    return all([are_some(fence, 1, net[0]) and is_parting(ends, end, fence) for end, fence in zip(ends, value)])


def part_along(points, roads, ends, path):
    """Return the most that can go along the link while the rest of the greatest total can still go behind it."""
    along = steps(path)
    part = min([road[2] for road in roads if road[:2] in along])
    # The total behind an amount along the link is less by just this amount if and only if the reaches of its two ends
    # fall by no more than the amount, and the other reaches stay.
    for end in ends:
        parting = parting_end(points, ends, end)
        widths = [crossing(roads, fence) for fence in parting]
        least, let = min(widths), 1 if end in (path[0], path[-1]) else 0
        for fence, wide in zip(parting, widths):
            fall = len([step for step in along if is_parted(fence, step[0], step[1])]) - let
            if fall > 0:
                part = min(part, (wide - least) // fall)
    return part


def links_of(net, ends):
    """Return half links with the greatest total, and whole ones if the widths at each point that is no end are even."""
    points, roads = net
    sums = sums_at(points, roads)
    factor = 2 if any([sums[point] % 2 == 1 for point in range(points) if point not in ends]) else 1
    found, wide = [], times(roads, factor)
    # What is left stays even at the points that are no ends, so some link lets more go until nothing is left of the
    # total (point 96). A link along which the most went lets no more go later: it could have gone at once.
    for one, other in combinations(list(ends), 2):
        for path in [path for path in paths_between(net, one, other) if is_link_between(net, ends, path)]:
            part = part_along(points, wide, ends, path)
            if part > 0:
                found.append((path, reduced(part, factor)))
                wide = raised(wide, steps(path), -part)
    return tuple(found)


def reach_of(net, ends, end):
    """Return the reach of the end and its told fence, for arguments that are right."""
    return min([(crossing(net[1], fence), fence) for fence in parting_end(net[0], ends, end)])


def reach(net, ends, end):
    """Return the pair of the reach of the end and its told fence."""
    need_ends(net, ends)
    if type(end) != int or end not in ends:
        raise BadValue("end")
    return reach_of(net, ends, end)


def greatest_total(net, ends):
    """Return half of the sum of the reaches of all ends, a fraction."""
    need_ends(net, ends)
    return reduced(sum([reach_of(net, ends, end)[0] for end in ends]), 2)


def ends_evidence(net, ends):
    """Return the told evidence about the ends (point 98)."""
    need_ends(net, ends)
    need_small_net(net)
    return links_of(net, ends), tuple([reach_of(net, ends, end)[1] for end in ends])


def accepts_ends(net, ends, value):
    """Return True if the value is evidence about the ends, otherwise False."""
    need_ends(net, ends)
    if not is_tuple(value, 2, 2):
        return False
    links, told = value
    if not are_links_between(net, ends, links) or not are_parting_fences(net, ends, told):
        return False
    total = NOTHING
    for _, amount in links:
        total = added(total, amount)
    return 2 * total[0] == total[1] * sum([crossing(net[1], fence) for fence in told])
