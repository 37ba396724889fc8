"""All wishes: worth and need of lengths and rises, and evidence whether wishes, good or not, can be met."""

from wishshapes.errors import BadValue, TooLarge
from wishshapes.nets import (are_some, first_weak, is_number, is_parted, is_tuple, is_within, is_word, need_fence,
                             need_net, need_small_net, need_wishes, room_left)
from wishshapes.simplex import greatest_sum
from wishshapes.ways import are_meeting, paths_between, reduced, steps

MOST_WISHES_MET = 5


def are_lengths(net, value):
    """Tell whether the value is lengths of the net (point 7)."""
    return is_tuple(value, len(net[1]), len(net[1])) and all([is_number(length, 0) for length in value])


def is_rise(net, lengths, value):
    """Tell whether the value is a rise by these lengths (point 7)."""
    points, roads = net
    if not is_tuple(value, points, points) or not all([type(number) == int for number in value]):
        return False
    return all([abs(value[one] - value[other]) <= length for (one, other, _), length in zip(roads, lengths)])


def are_rises(net, wishes, lengths, value):
    """Tell whether the value is rises for the wishes by these lengths (point 83)."""
    return is_tuple(value, len(wishes), len(wishes)) and all([is_rise(net, lengths, rise) for rise in value])


def need_lengths(net, lengths):
    """Raise BadValue if these are not lengths of this net."""
    if not are_lengths(net, lengths):
        raise BadValue("lengths")


def need_small(net, wishes):
    """Raise TooLarge if there are more points, roads or wishes than are looked at here."""
    need_small_net(net)
    if len(wishes) > MOST_WISHES_MET:
        raise TooLarge("net")


def worth_of(net, lengths):
    """Add up the widths times the lengths."""
    return sum([road[2] * length for road, length in zip(net[1], lengths)])


def need_of(wishes, rises):
    """Add up the amounts times what the rises have more at the greater points than at the lesser ones."""
    return sum([amount * (rise[other] - rise[one]) for (one, other, amount), rise in zip(wishes, rises)])


def least_sums(points, roads, lengths, point):
    """Return for each point the least sum of lengths of a path from this point to it, or None if there is no path."""
    sums = [None] * points
    sums[point] = 0
    # The path has at most one road less than there are points, and each round makes one road more right.
    for _ in range(points - 1):
        for road, length in zip(roads, lengths):
            for here, there in ((road[0], road[1]), (road[1], road[0])):
                if sums[here] is not None and (sums[there] is None or sums[here] + length < sums[there]):
                    sums[there] = sums[here] + length
    return sums


def rise_of(net, lengths, point):
    """Return the rise from the point, for arguments that are right."""
    sums = least_sums(net[0], net[1], lengths, point)
    return tuple([0 if least is None else least for least in sums])


def are_against(net, wishes, lengths, rises):
    """Tell whether these are lengths of the net and rises for the wishes by them, with more need than worth."""
    if not are_lengths(net, lengths) or not are_rises(net, wishes, lengths, rises):
        return False
    return need_of(wishes, rises) > worth_of(net, lengths)


def solved(net, wishes):
    """Tell how much can go along each path, and what the roads are worth where this is not enough.

    Return the list of the triples (wish, path, amount), the prices of the roads, and the unit: the amounts and the
    prices stand for themselves divided by it.
    """
    trips = [(index, path) for index, wish in enumerate(wishes) for path in paths_between(net, wish[0], wish[1])]
    columns = []
    for index, path in trips:
        along = steps(path)
        mine = [1 if at == index else 0 for at in range(len(wishes))]
        columns.append([1 if road[:2] in along else 0 for road in net[1]] + mine)
    amounts, prices, unit = greatest_sum(columns, [link[2] for link in net[1] + wishes])
    rows = [(index, path, amount) for (index, path), amount in zip(trips, amounts)]
    return rows, prices[:len(net[1])], unit


def evidence_of(net, wishes):
    """Return evidence about wishes for which no fence is too weak."""
    if not wishes:
        return "ways", ()
    rows, prices, unit = solved(net, wishes)
    if sum([amount for _, _, amount in rows]) == unit * sum([wish[2] for wish in wishes]):
        return "ways", tuple([(index, path, reduced(amount, unit)) for index, path, amount in rows if amount > 0])
    # Each path has, with the price of its wish, at least the price 1, and all prices are less than all amounts: so
    # the rises by the prices of the roads need more than these are worth.
    lengths = tuple(prices)
    return "lengths", lengths, tuple([rise_of(net, lengths, wish[0]) for wish in wishes])


def fence_rise(points, fence, wish):
    """Return the rise of the fence for the wish (point 87)."""
    one, other, _ = wish
    if not is_parted(fence, one, other):
        return (0,) * points
    return tuple([0 if (point in fence) == (one in fence) else 1 for point in range(points)])


def fence_lengths(net, wishes, fence):
    """Return the pair of the lengths and the rises of the fence, for arguments that are right."""
    lengths = [1 if is_parted(fence, one, other) else 0 for one, other, _ in net[1]]
    return tuple(lengths), tuple([fence_rise(net[0], fence, wish) for wish in wishes])


def worth(net, lengths):
    """Return the worth of the lengths."""
    need_net(net)
    need_lengths(net, lengths)
    return worth_of(net, lengths)


def need(net, wishes, lengths, rises):
    """Return the need of the rises."""
    need_wishes(net, wishes)
    need_lengths(net, lengths)
    if not are_rises(net, wishes, lengths, rises):
        raise BadValue("rises")
    return need_of(wishes, rises)


def lengths_of(net, wishes, fence):
    """Return the pair of the lengths and the rises of the fence."""
    need_wishes(net, wishes)
    need_fence(net, fence)
    return fence_lengths(net, wishes, fence)


def rise_from(net, lengths, point):
    """Return the rise from the point by the lengths."""
    need_net(net)
    need_lengths(net, lengths)
    if not is_within(point, 0, net[0] - 1):
        raise BadValue("point")
    return rise_of(net, lengths, point)


def can_be_met(net, wishes):
    """Return True if some ways meet the wishes, otherwise False."""
    return told_evidence(net, wishes)[0] == "ways"


def told_evidence(net, wishes):
    """Return the told evidence about the wishes (point 86)."""
    need_wishes(net, wishes)
    need_small(net, wishes)
    weak = first_weak(net, wishes)
    return evidence_of(net, wishes) if weak is None else ("fence", weak)


def accepts_evidence(net, wishes, value):
    """Return True if the value is evidence of any of the three words about the wishes, otherwise False."""
    need_wishes(net, wishes)
    if is_tuple(value, 3, 3):
        return is_word(value[0], "lengths") and are_against(net, wishes, value[1], value[2])
    if not is_tuple(value, 2, 2):
        return False
    word, told = value
    if is_word(word, "ways"):
        return are_meeting(net, wishes, told)
    return is_word(word, "fence") and are_some(told, 1, net[0]) and room_left(net, wishes, told) < 0
