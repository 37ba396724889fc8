"""Nets, wishes and fences: what they are, and how much room the fences have."""

from itertools import combinations

from wishshapes.errors import BadValue, TooLarge

LEAST_POINTS = 2
MOST_POINTS = 7
MOST_ROADS = 15
MOST_WISHES = 10
MOST_WIDTH = 6
MOST_AMOUNT = 6
# Ways are only searched for in nets that are no larger.
MOST_POINTS_MET = 6
MOST_ROADS_MET = 9


def is_within(value, least, most):
    """Tell whether the value is an integer from the least to the most."""
    # isinstance would let True and False pass for 1 and 0.
    return type(value) == int and least <= value <= most


def is_tuple(value, least, most):
    """Tell whether the value is a tuple of at least so many and at most so many items."""
    return type(value) == tuple and least <= len(value) <= most


def is_number(value, least):
    """Tell whether the value is an integer from the least one on."""
    return type(value) == int and value >= least


def is_word(value, word):
    """Tell whether the value is this string."""
    return type(value) == str and value == word


def is_ascending(items):
    """Tell whether each item is less than the next one; the items are ones that can be compared."""
    return all([low < high for low, high in zip(items, items[1:])])


def is_pair(value, points):
    """Tell whether the value is a pair of two of so many points, the lesser one first."""
    if not is_tuple(value, 2, 2):
        return False
    one, other = value
    return is_within(one, 0, points - 1) and is_within(other, one + 1, points - 1)


def is_link(value, points, most):
    """Tell whether the value is two points, the lesser one first, and an integer from 1 to the most."""
    return is_tuple(value, 3, 3) and is_pair(value[:2], points) and is_within(value[2], 1, most)


def are_links(value, points, many, most):
    """Tell whether the value is an ascending tuple of at most so many links, no two with the same two points."""
    if not is_tuple(value, 0, many):
        return False
    # What is nested deeply must not be compared, so each link is looked at before any two are.
    if not all([is_link(link, points, most) for link in value]):
        return False
    return is_ascending([link[:2] for link in value])


def are_rising(value, least, most):
    """Tell whether the items of the tuple are ascending integers from the least to the most."""
    return all([is_within(item, least, most) for item in value]) and is_ascending(value)


def are_some(value, least, points):
    """Tell whether the value is an ascending tuple of points from the least one on, neither none nor all points."""
    return is_tuple(value, 1, points - 1) and are_rising(value, least, points - 1)


def is_net(value):
    """Tell whether the value is a net (point 5)."""
    if not is_tuple(value, 2, 2):
        return False
    points, roads = value
    return is_within(points, LEAST_POINTS, MOST_POINTS) and are_links(roads, points, MOST_ROADS, MOST_WIDTH)


def are_wishes(net, value):
    """Tell whether the value is wishes of the net (point 5)."""
    need_net(net)
    return are_links(value, net[0], MOST_WISHES, MOST_AMOUNT)


def is_fence(net, value):
    """Tell whether the value is a fence of the net (point 6)."""
    need_net(net)
    return are_some(value, 1, net[0])


def need_net(net):
    """Raise BadValue if it is not a net."""
    if not is_net(net):
        raise BadValue("net")


def need_wishes(net, wishes):
    """Raise BadValue if the net is none, or if the wishes are not wishes of it."""
    if not are_wishes(net, wishes):
        raise BadValue("wishes")


def need_fence(net, fence):
    """Raise BadValue if the net is none, or if the fence is not one of it."""
    if not is_fence(net, fence):
        raise BadValue("fence")


def need_small_net(net):
    """Raise TooLarge if ways are not searched for in a net of this size."""
    if net[0] > MOST_POINTS_MET or len(net[1]) > MOST_ROADS_MET:
        raise TooLarge("net")


def need_two_points(net, one, other):
    """Raise BadValue if the one is not a point of this net, or if the other is not a greater one."""
    if not is_within(one, 0, net[0] - 1):
        raise BadValue("one")
    if not is_within(other, one + 1, net[0] - 1):
        raise BadValue("other")


def is_parted(fence, one, other):
    """Tell whether exactly one of the two points is in the fence."""
    return (one in fence) != (other in fence)


def crossing(links, fence):
    """Add up the numbers of the roads, or wishes, that cross the fence."""
    return sum([number for one, other, number in links if is_parted(fence, one, other)])


def room_left(net, wishes, fence):
    """Tell the room of the fence, for arguments that are right."""
    return crossing(net[1], fence) - crossing(wishes, fence)


def sums_at(points, links):
    """Add up, for each point, the numbers of the roads and wishes that it has."""
    sums = [0] * points
    for one, other, number in links:
        sums[one] += number
        sums[other] += number
    return sums


def fences(net):
    """Return the list of all fences of the net, in order."""
    need_net(net)
    points = net[0]
    return sorted([fence for many in range(1, points) for fence in combinations(range(1, points), many)])


def fence_of(net, some):
    """Return the fence that divides the points as these points are divided from the others."""
    need_net(net)
    if not are_some(some, 0, net[0]):
        raise BadValue("some")
    if some[0] != 0:
        return some
    return tuple([point for point in range(net[0]) if point not in some])


def width(net, fence):
    """Return the width of the fence."""
    need_fence(net, fence)
    return crossing(net[1], fence)


def load(net, wishes, fence):
    """Return the load of the fence."""
    need_wishes(net, wishes)
    need_fence(net, fence)
    return crossing(wishes, fence)


def room(net, wishes, fence):
    """Return the width of the fence less its load."""
    need_wishes(net, wishes)
    need_fence(net, fence)
    return room_left(net, wishes, fence)


def weak_fences(net, wishes):
    """Return the list of the fences that are too weak, in order."""
    need_wishes(net, wishes)
    return [fence for fence in fences(net) if room_left(net, wishes, fence) < 0]


def tight_fences(net, wishes):
    """Return the list of the fences whose room is 0, in order."""
    need_wishes(net, wishes)
    return [fence for fence in fences(net) if room_left(net, wishes, fence) == 0]


def first_weak(net, wishes):
    """Return the first fence that is too weak, or None."""
    weak = weak_fences(net, wishes)
    return weak[0] if weak else None


def widths_at(net):
    """Return the tuple of the widths at the points."""
    need_net(net)
    return tuple(sums_at(net[0], net[1]))


def odd_points(net, wishes):
    """Return the ascending tuple of the odd points."""
    need_wishes(net, wishes)
    sums = sums_at(net[0], net[1] + wishes)
    return tuple([point for point in range(net[0]) if sums[point] % 2 == 1])


def parts(net):
    """Return the tuple of the parts of the net, ascending, each an ascending tuple of points."""
    need_net(net)
    points, roads = net
    # The mark of a point is the least point of its part, as far as the roads up to now tell.
    marks = list(range(points))
    for one, other, _ in roads:
        low, high = min(marks[one], marks[other]), max(marks[one], marks[other])
        marks = [low if mark == high else mark for mark in marks]
    return tuple([tuple([point for point in range(points) if marks[point] == mark]) for mark in sorted(set(marks))])
