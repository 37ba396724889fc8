"""Nets and wishes that are made from others: renamed, or with two points put together."""

from wishshapes.errors import BadValue, NotPossible, TooLarge
from wishshapes.nets import MOST_AMOUNT, MOST_WIDTH, is_tuple, is_within, need_two_points, need_wishes


def is_order(value, points):
    """Tell whether the value is a tuple that has each of so many points once."""
    if not is_tuple(value, points, points):
        return False
    if not all([is_within(item, 0, points - 1) for item in value]):
        return False
    return sorted(value) == list(range(points))


def moved(links, places):
    """Return the roads, or wishes, with places[x] instead of x; those that then have the same two points become one."""
    sums = {}
    for one, other, number in links:
        low, high = min(places[one], places[other]), max(places[one], places[other])
        # A link whose two points are put together is taken out.
        if low < high:
            sums[low, high] = sums.get((low, high), 0) + number
    return tuple([(low, high, sums[low, high]) for low, high in sorted(sums)])


def times(links, factor):
    """Return the roads, or wishes, with all numbers multiplied by the factor."""
    return tuple([(one, other, number * factor) for one, other, number in links])


def raised(links, pairs, step):
    """Return the roads, or wishes, with those between these pairs of points greater by the step, also one below 0."""
    return tuple([(one, other, number + step if (one, other) in pairs else number) for one, other, number in links])


def kept(links):
    """Return the roads, or wishes, without those whose number is 0."""
    return tuple([link for link in links if link[2] > 0])


def has_more(links, most):
    """Tell whether some width, or amount, is greater than the most."""
    return any([link[2] > most for link in links])


def renamed(net, wishes, order):
    """Return the pair of the renamed net and the renamed wishes."""
    need_wishes(net, wishes)
    points, roads = net
    if not is_order(order, points):
        raise BadValue("order")
    return (points, moved(roads, order)), moved(wishes, order)


def put_together(net, wishes, one, other):
    """Return the pair of the net and the wishes in which the two points are put together."""
    need_wishes(net, wishes)
    need_two_points(net, one, other)
    points, roads = net
    if points == 2:
        raise NotPossible("two")
    places = [point - 1 if point > other else point for point in range(points)]
    places[other] = one
    new_roads, new_wishes = moved(roads, places), moved(wishes, places)
    if has_more(new_roads, MOST_WIDTH):
        raise TooLarge("width")
    if has_more(new_wishes, MOST_AMOUNT):
        raise TooLarge("amount")
    return (points - 1, new_roads), new_wishes
